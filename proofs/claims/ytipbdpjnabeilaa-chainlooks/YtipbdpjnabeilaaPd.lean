/-
  Texts of this claim, one behind the other: Cou Cs2 Cuw Clw.
-/
import Derived.Test.YtipbdpjnabeilaaPc
import Derived.Test.YtipbdpjnabeilaaPb
import Derived.Deep.RegionHeld3
import Derived.Deep.CutBlock
/-
  What rows of stage 6 open a stamp by.
-/
namespace Go.Proofs.Ytipbdpjnabeilaa
open Go.ChangeShapes Go.WideShapes Go.ChangeAt Go.RowKit Go.Lib Go.Deep Go.Joins

theorem open_u64 {H : Type} {enc : TypeId × Value → H} {W : World} {b0 : Nat} {v : Value} {d : DataW H} {p : List MemPlace}
    (hv : Value.okWide Try.prog W .any b0 30 v) (h : DataW.Trod enc Try.prog W 0 (fun _ => true) true 30 v d p) : ∃ t, v = .int .u64 t ∧ 0 ≤ t ∧ t ≤ 18446744073709551615 := by
  obtain ⟨n, rfl, _, _, hw⟩ := open_int Try.underlying30 hv h
  have hws : 0 ≤ n ∧ n ≤ 18446744073709551615 := by
    simp [Lit.wf, IntKind.min, IntKind.max, IntKind.signed, IntKind.bits] at hw
    omega
  exact ⟨n, rfl, hws.1, hws.2⟩

end Go.Proofs.Ytipbdpjnabeilaa

/-
  The program's chain (stage 6): what stays beside a Put and a Prune.
-/
namespace Go.Proofs.Ytipbdpjnabeilaa
open Go.RowKit

theorem st_put2 {n0 g : Nat} {l : List Vr} {W0 W : World} (h : ChSt n0 g l W0) (hb : Below W0.heap.size W0 W) (stamp tick : Int) (live : Bool) (v : Value) (e : List Fx) (val : List Fld) (hv : IsXs W v e) (hf : FitX e) (hval : e.map Fx.fld = val) (h0 : 0 ≤ stamp) (htop : (lastV l).num < 2400000000000) :
    Calls Try.prog 24 #[.pointer (some ⟨g, 0, none⟩), .int .u64 stamp, .int .i64 tick, .bool live, v] W fun r w' =>
      r = .returned (.tuple #[.int .i64 (putN l stamp live val), .int .i64 (putC l stamp live val)]) ∧ ChSt n0 g (putL l stamp tick live val) w' ∧ Fr (fun k => n0 ≤ k ∧ k < W0.heap.size) W w' := by
  obtain ⟨d, vs, h1, rfl⟩ := h
  refine (put_any (h1.on hb) stamp tick live v e val hv hf hval h0 htop).mono ?_
  rintro r w' ⟨h2, d', vs', h3, h4, _, h5⟩
  exact ⟨h2, ⟨d', vs', h3, h4⟩, h5.mono fun k hk => h1.blk k hk⟩

theorem st_prune2 {n0 g : Nat} {l : List Vr} {W0 W : World} (h : ChSt n0 g l W0) (hb : Below W0.heap.size W0 W) (f : Int) :
    Calls Try.prog 17 #[.pointer (some ⟨g, 0, none⟩), .int .u64 f] W fun r w' => r = .returned (.int .i64 (pruneN l f : Nat)) ∧ ChSt n0 g (pruneV l f) w' ∧ Fr (fun k => n0 ≤ k ∧ k < W0.heap.size) W w' := by
  obtain ⟨d, vs, h1, rfl⟩ := h
  refine (prune_any (h1.on hb) f).mono ?_
  rintro r w' ⟨h2, d', vs', h3, h4, _, h5⟩
  exact ⟨h2, ⟨d', vs', h3, h4⟩, h5.mono fun k hk => h1.blk k hk⟩

theorem Told.fr {P : Nat → Prop} {N : Nat} {u : Value} {o : List Vx} {l : List Vr} {W W2 : World} (h : Told N u o l W) (f : Fr P W W2) (hP : ∀ k, P k → k < N) : Told N u o l W2 := by
  refine ⟨f.row (show W.ownsRow N 41 5 u o.length (KV.cells o) from h.own) fun k hk hp => ?_, fun x hx => ownJ_fr (h.each x hx) f fun k hk hp => ?_, h.apart, h.ver⟩
  · have h1 := (World.ownsRow.lt (show W.ownsRow N 41 5 u o.length (KV.cells o) from h.own) k hk).1
    have h2 := hP k hp
    omega
  · have h1 := (ownJ_blk (h.each x hx) k hk).1
    have h2 := hP k hp
    omega

theorem VerAt.fr {P : Nat → Prop} {N : Nat} {x : Vx} {W W2 : World} (h : VerAt W N x) (f : Fr P W W2) (hP : ¬ P N) : VerAt W2 N x := (f.block N h.lt hP).trans h

/-- The first ones of a list. -/
theorem take_is {n0 : Nat} {w : World} {p : Option Addr} {cap : Nat} {d : List Vx} (h : KV.Own n0 w (.slice p d.length cap) d) (k : Nat) (hk : k ≤ d.length) : KV.Is w (.slice p k cap) (d.take k) := by
  refine ⟨p, cap, by rw [List.length_take, Nat.min_eq_left hk], ?_⟩
  obtain ⟨p', c', hsl, hI⟩ := Kind.own_is h
  injection hsl with e1 _ _
  subst e1
  rcases hI with hI | ⟨b, off, rfl, hat⟩
  · left; rw [hI]; simp
  · refine Or.inr ⟨b, off, rfl, fun i hi j u hu => ?_⟩
    have hi' : i < d.length := by rw [List.length_take] at hi; omega
    rw [List.getElem_take] at hu
    exact hat i hi' j u hu

theorem put_same {l : List Vr} {stamp tick : Int} {live : Bool} {val : List Fld} (h : putC l stamp live val ≠ 0) : putL l stamp tick live val = l ∧ putN l stamp live val = 0 := by
  unfold putL putN
  rw [if_neg h, if_neg h]
  exact ⟨rfl, rfl⟩

theorem put_new {l : List Vr} {stamp tick : Int} {live : Bool} {val : List Fld} (h : putC l stamp live val = 0) : putL l stamp tick live val = l ++ [⟨putN l stamp live val, stamp, tick, live, if live then val else []⟩] := by
  unfold putL putN
  rw [if_pos h, if_pos h]
  rfl

theorem put_above {l : List Vr} {stamp : Int} {live : Bool} {val : List Fld} (h : putC l stamp live val = 0) : (lastV l).stamp < stamp := by
  unfold putC putCode at h
  split at h
  · simp at h
  · next hs => exact Int.not_le.1 fun e => hs (Or.inr e)

end Go.Proofs.Ytipbdpjnabeilaa

/-
  The walk of ChainRefuses (stage 6).
-/
namespace Go.Proofs.Ytipbdpjnabeilaa
open Go.RowKit

/-- An operation in a block of its own. -/
def OpBox (w : World) (N : Nat) (x : Ox) : Prop := w.heap[N]? = some (.cells (encO x).toArray 33 (0, 0))

theorem OpBox.cells {w : World} {N : Nat} {x : Ox} (h : OpBox w N x) : w.cell? ⟨N, 1, none⟩ = some (.int .u64 x.stamp) ∧ w.cell? ⟨N, 2, none⟩ = some (.int .i64 x.tick) ∧ w.cell? ⟨N, 3, none⟩ = some (.bool x.live) ∧ w.cell? ⟨N, 4, none⟩ = some x.sl ∧ w.cell? ⟨N, 0, none⟩ = some (.int .i64 x.kind) ∧ w.cell? ⟨N, 5, none⟩ = some (.int .i64 x.n) := by
  unfold OpBox at h
  refine ⟨?_, ?_, ?_, ?_, ?_, ?_⟩ <;> (rw [Lib.cell_of_heap h]; rfl)

theorem OpBox.lt {w : World} {N : Nat} {x : Ox} (h : OpBox w N x) : N < w.heap.size := by
  unfold OpBox at h
  rcases Nat.lt_or_ge N w.heap.size with h' | h'
  · exact h'
  · rw [Array.getElem?_eq_none h'] at h; cases h

theorem OpBox.on {w W : World} {N : Nat} {x : Ox} (h : OpBox w N x) (hb : Below w.heap.size w W) : OpBox W N x := (hb.block N h.lt).trans h
theorem OpBox.fr {P : Nat → Prop} {N : Nat} {x : Ox} {W W2 : World} (h : OpBox W N x) (f : Fr P W W2) (hP : ¬ P N) : OpBox W2 N x := (f.block N h.lt hP).trans h

theorem sameVs_told {N M : Nat} {u v : Value} {o q : List Vx} {l m : List Vr} {W : World} (h : Told N u o l W) (k : Told M v q m W) (hl : ∀ v ∈ l, mayB v.val = true) (hm : ∀ v ∈ m, mayB v.val = true) (hf : l.length ≤ 2400000000000) :
    Calls Try.prog 12 #[u, v] W fun r w' => r = .returned (.bool (decide (l = m))) ∧ Below W.heap.size W w' := by
  have := sameVs_any u v o q W (Kind.own_is h.own) (Kind.own_is k.own) (h.fits hl) (k.fits hm) (by rw [h.len]; unfold maxLen; omega)
  rw [h.ver, k.ver] at this
  exact this

set_option maxHeartbeats 1500000 in
set_option maxRecDepth 100000 in
theorem refuses_any (v : Value) (ops : List Ox) (x : Ox) (w : World) (hv : KO.Is w v ops) (hx : ∀ x ∈ ops, OpAt w x) (hl : ops.length ≤ 2199023255552) (hxo : OpAt w x) :
    Calls Try.prog 8 #[v, .agg (encO x).toArray] w fun e w' => e = .returned (.bool true) ∧ Below w.heap.size w w' := by
  have hb0 : Below w.heap.size w (w.alloc (.cells (encO x).toArray 33)) := (Below.refl _ _).alloc (Nat.le_refl _) _
  have HF := hid (fixed_any (w.alloc (.cells (encO x).toArray 33)))
  have HLD : Hid (∀ W, Below w.heap.size w W → Calls Try.prog 15 #[v] W fun e w' => ∃ g, e = .returned (.pointer (some ⟨g, 0, none⟩)) ∧ ChSt W.heap.size g (laidV ops) w' ∧ (lastV (laidV ops)).num ≤ 2199023255552 ∧ Below W.heap.size W w') := fun W hW => st_laid v ops W (Kind.is_kept hv hW) (fun x hx' => (hx x hx').on hW) hl
  obtain ⟨p, cap, rfl, _⟩ := hv
  obtain ⟨N, hN⟩ : ∃ N, w.heap.size = N := ⟨_, rfl⟩
  have HO0 : Hid (OpBox (w.alloc (.cells (encO x).toArray 33)) N x) := by rw [← hN]; exact heap_alloc_new w _
  have HB0 := hid hb0
  have HXO := hid hxo
  obtain ⟨W0, hW0⟩ : ∃ W0, w.alloc (.cells (encO x).toArray 33) = W0 := ⟨_, rfl⟩
  have hs0 : W0.heap.size = N + 1 := by rw [← hW0, ← hN]; simp
  rw [hW0] at HF HO0 HB0
  have HPUT : Hid (∀ (n0 g : Nat) (l : List Vr) (V W : World), ChSt n0 g l V → Below V.heap.size V W → Below w.heap.size w W → (lastV l).num ≤ 2199023255552 → Calls Try.prog 24 #[.pointer (some ⟨g, 0, none⟩), .int .u64 x.stamp, .int .i64 x.tick, .bool x.live, x.sl] W fun r w' => r = .returned (.tuple #[.int .i64 (putN l x.stamp x.live x.val), .int .i64 (putC l x.stamp x.live x.val)]) ∧ ChSt n0 g (putL l x.stamp x.tick x.live x.val) w' ∧ Fr (fun k => n0 ≤ k ∧ k < V.heap.size) W w') := fun n0 g l V W h1 h2 h3 h4 => st_put2 h1 h2 x.stamp x.tick x.live x.sl x.o x.val (hxo.is.kept h3) hxo.fit rfl hxo.lo (by omega)
  clear hx hl hxo hb0
  obtain ⟨XV, hXV⟩ : ∃ XV, x.val = XV := ⟨_, rfl⟩
  rw [hXV] at HPUT
  clear hXV HXO
  obtain ⟨xk, xs, xt, xl, xp, xc, xo, xn⟩ := x
  simp only [encO, Ox.sl] at hW0 HPUT ⊢
  go_enter Try.func8, Try.ntmps8
  go_wp2_with fail
  try rw [hW0]
  try rw [hN]
  clear hW0
  refine HF.out.mono ?_
  rintro e w1 ⟨rfl, hb1⟩
  have HB1 := hid (bel_then HB0.out HB0.out.size hb1)
  have HO1 := hid (HO0.out.on hb1)
  have HL1 := hid (HLD.out w1 HB1.out)
  have hs1 : N + 1 ≤ w1.heap.size := by have := hb1.size; omega
  clear hb1 HF HLD HO0 HB0
  go_wp2_with fail
  refine HL1.out.mono ?_
  rintro e w2 ⟨g, rfl, hC2, hnum, hb2⟩
  generalize laidV ops = l at hC2 hnum
  have HB2 := hid (bel_then HB1.out HB1.out.size hb2)
  have HO2 := hid (HO1.out.on hb2)
  have HC2 := hid hC2
  have HAL := hid (st_all hC2)
  have HNUM := hid hnum
  have hs2 := hb2.size
  clear hC2 hb2 HL1 HB1 HO1 hnum
  go_wp2_with fail
  refine HAL.out.mono ?_
  intro e w3 hp3
  obtain ⟨u, o, rfl, ht3, hb3⟩ := all_told hp3
  have HOL := hid ht3.len
  have hfew := HC2.out.few
  obtain ⟨pu, cu, rfl⟩ := Kind.own_shape ht3.own
  have HT3 := hid ht3
  have HO3 := hid (HO2.out.on hb3)
  have HB3 := hid hb3
  have HLA := hid (st_last (HC2.out.on hb3))
  have hs3 := hb3.size
  clear hp3 ht3 hb3 HAL HO2
  go_wp2_with fail
  refine HLA.out.mono ?_
  rintro e w4 ⟨x4, rfl, hx4, _, hb4⟩
  have hba : Below w3.heap.size w3 (w4.alloc (.cells (encVx x4).toArray 41)) := hb4.alloc hb4.size _
  have HV4 : Hid (VerAt (w4.alloc (.cells (encVx x4).toArray 41)) w4.heap.size x4) := heap_alloc_new w4 _
  have hs4 := hb4.size
  obtain ⟨A4, hA4⟩ : ∃ A4, w4.heap.size = A4 := ⟨_, rfl⟩
  rw [hA4] at HV4 hs4
  have HB4 := hid (bel_then HB3.out HB3.out.size hba)
  have HT4 := hid (HT3.out.on hba)
  have HO4 := hid (HO3.out.on hba)
  have HBW4 := hid (bel_then HB2.out HB2.out.size HB4.out)
  have HPC := hid (HPUT.out _ g l w2 _ HC2.out HB4.out HBW4.out HNUM.out)
  have H4S : Hid (x4.stamp = (lastV l).stamp) := by
    show x4.ver.stamp = (lastV l).stamp
    rw [hx4]; rfl
  clear hx4 hb4 hba HLA HT3 HO3 HB3 HPUT
  obtain ⟨xn4, xs4, xt4, xl4, xp4, xc4, xo4⟩ := x4
  simp only [encVx, Vx.sl] at HV4 HB4 HT4 HO4 HBW4 HPC H4S ⊢
  obtain ⟨m1, m2, m3, m4, _, _⟩ := HO4.out.cells
  simp only [Ox.sl] at m1 m2 m3 m4
  go_wp2_with fail
  try rw [hA4]
  clear m1 m2 m3 m4
  refine HPC.out.mono ?_
  rintro e w5 ⟨rfl, hC5, hf5⟩
  have hT5 := HT4.out.fr hf5 fun k hk => hk.2
  have HT5 := hid hT5
  have hV5 := HV4.out.fr hf5 (by omega)
  have hO5 := HO4.out.fr hf5 (by omega)
  have hb5 : Below w.heap.size w w5 := HBW4.out.trans (hf5.below HBW4.out.size fun k hk => by omega)
  have HB5 := hid hb5
  have HC5 := hid hC5
  have HV5 := hid hV5
  have HO5 := hid hO5
  have HMAY := hid HC2.out.may
  clear hb5 hT5 hC5 hf5 hV5 hO5 HPC HT4 HV4 HO4 HBW4 HB4 HC2 HB2
  by_cases hcode : putC l xs xl XV = 0
  · rw [put_new hcode] at HC5
    have HAB := hid (put_above hcode)
    have hpl : 0 ≤ putN l xs xl XV ∨ True := Or.inr trivial
    rw [hcode]
    obtain ⟨PN, hPN⟩ : ∃ PN, putN l xs xl XV = PN := ⟨_, rfl⟩
    rw [hPN] at HC5 ⊢
    clear hcode hPN hpl
    have HLA := hid (st_last HC5.out)
    rw [List.getLast?_concat] at HLA
    go_wp2_with fail
    refine HLA.out.mono ?_
    rintro e w6 ⟨x6, rfl, hx6, _, hb6⟩
    have hba : Below w5.heap.size w5 (w6.alloc (.cells (encVx x6).toArray 41)) := hb6.alloc hb6.size _
    have HV6 : Hid (VerAt (w6.alloc (.cells (encVx x6).toArray 41)) w6.heap.size x6) := heap_alloc_new w6 _
    obtain ⟨A6, hA6⟩ : ∃ A6, w6.heap.size = A6 := ⟨_, rfl⟩
    rw [hA6] at HV6
    have HB6 := hid (bel_then HB5.out HB5.out.size hba)
    have HT6 := hid (HT5.out.on hba)
    have HC6 := hid (HC5.out.on hba)
    have hO6 := HO5.out.on hba
    have hV46 := HV5.out.on hba
    have HAL := hid (st_all HC6.out)
    obtain ⟨xn6, xs6, xt6, xl6, xp6, xc6, xo6⟩ := x6
    obtain ⟨rfl, rfl, rfl, rfl, -⟩ := ver_parts (show Vx.ver _ = ⟨_, _, _, _, _⟩ from hx6)
    obtain ⟨m1, m2, m3, m4, _, _⟩ := hO6.cells
    have n1 := hV46.cells.2.1
    simp only [Ox.sl, encVx, Vx.sl, Nat.zero_add] at m1 m2 m3 m4 n1 HV6 HB6 HT6 HC6 HAL ⊢
    have hab := HAB.out
    rw [← H4S.out] at hab
    have hab' : xs4 < xs6 := hab
    clear hx6 hb6 hba HLA HT5 HO5 HB5 HC5 HV5 hO6 hV46 hab HAB H4S
    go_wp2_with fail
    try rw [hA6]
    clear hA6 m1 m2 m3 m4 n1
    refine HAL.out.mono ?_
    intro e w7 hp7
    obtain ⟨u7, o7, rfl, ht7, hb7⟩ := all_told hp7
    have hol7 := ht7.len
    rw [List.length_append, List.length_singleton] at hol7
    have HT7 := hid (HT6.out.on hb7)
    have HC7 := hid (HC6.out.on hb7)
    have HB7 := hid (bel_then HB6.out HB6.out.size hb7)
    obtain ⟨p7, c7, rfl⟩ := Kind.own_shape ht7.own
    have hcap := (own_caps ht7.own).1
    have hol := HOL.out
    have hcm : c7 ≤ maxLen := by
      rcases ht7.own.2 with ⟨h1, _⟩ | ⟨_, c, _, h1, _, _, _, h2, _⟩
      · injection h1 with _ _ e; rw [e]; exact Nat.zero_le _
      · injection h1 with _ _ e; rw [e]; exact h2
    unfold maxLen at hcm
    have HSV : Hid (Calls Try.prog 12 #[.slice p7 o.length c7, .slice pu o.length cu] w7 fun r w' => r = .returned (.bool true) ∧ Below w7.heap.size w7 w') := by
      have hmay7 := HC7.out.may
      have h1 := take_is ht7.own o.length (by omega)
      have h2 := sameVs_any _ _ (o7.take o.length) o w7 h1 (Kind.own_is HT7.out.own) (fun x hx => ht7.fits hmay7 x (List.mem_of_mem_take hx)) (HT7.out.fits HMAY.out) (by rw [List.length_take]; unfold maxLen; omega)
      rw [List.map_take, ht7.ver, HT7.out.ver, hol, List.take_left, decide_eq_true rfl] at h2
      rw [hol]
      exact h2
    have hlen7 : o7.length = o.length + 1 := by omega
    have i1 : (o.length : Int) ≤ (c7 : Int) := by omega
    have i2 : (0 : Int) ≤ (o.length : Int) := by omega
    have HLE := hid (st_len HC7.out)
    rw [List.length_append, List.length_singleton, ← hol] at HLE
    have hof : o.length ≤ 2400000000000 := by omega
    have HE7 := hid hlen7
    clear hp7 ht7 hb7 hol7 HAL HT6 HC6 HB6 hcap hol hfew hlen7
    go_wp2_with fail
    refine HSV.out.mono ?_
    rintro e w8 ⟨rfl, hb8⟩
    have HLE8 := hid (st_len (HC7.out.on hb8))
    rw [List.length_append, List.length_singleton, ← HOL.out] at HLE8
    have HB8 := hid (bel_then HB7.out HB7.out.size hb8)
    clear hb8 HSV HLE HB7
    go_wp2_with fail
    refine HLE8.out.mono ?_
    rintro e w9 ⟨rfl, rfl⟩
    clear HLE8
    go_wp2_with fail
    go_ret
    first
    | exact ⟨rfl, HB8.out⟩
    | exact ⟨by simp, HB8.out⟩
  · obtain ⟨hsame, hn0⟩ := put_same (tick := xt) hcode
    rw [hsame] at HC5
    rw [hn0]
    obtain ⟨PC, hPC⟩ : ∃ PC, putC l xs xl XV = PC := ⟨_, rfl⟩
    rw [hPC] at hcode ⊢
    have hne : (PC != 0) = true := by simpa using hcode
    have HAL := hid (st_all HC5.out)
    clear hsame hn0 hPC hcode
    go_wp2_with fail
    refine HAL.out.mono ?_
    intro e w6 hp6
    obtain ⟨u6, o6, rfl, ht6, hb6⟩ := all_told hp6
    have HSV := hid (sameVs_told ht6 (HT5.out.on hb6) HMAY.out HMAY.out hfew)
    rw [decide_eq_true rfl] at HSV
    have HB6 := hid (bel_then HB5.out HB5.out.size hb6)
    obtain ⟨p6, c6, rfl⟩ := Kind.own_shape ht6.own
    clear hp6 ht6 hb6 HAL
    go_wp2_with fail
    refine HSV.out.mono ?_
    rintro e w7 ⟨rfl, hb7⟩
    have HB7 := hid (bel_then HB6.out HB6.out.size hb7)
    clear hb7 HSV HB6
    go_wp2_with fail
    go_ret
    exact ⟨rfl, HB7.out⟩

end Go.Proofs.Ytipbdpjnabeilaa

/-
  The walk of ChainLooks (stage 6).
-/
namespace Go.Proofs.Ytipbdpjnabeilaa
open Go.RowKit

theorem wrap_small (n : Int) (h0 : 0 ≤ n) (h1 : n ≤ 2400000000000) : wrap64 n = n ∧ IntKind.i64.wrap n = n := by
  refine ⟨?_, ?_⟩
  · simp [wrap64]; omega
  · rw [IntKind.wrap_i64]; omega

theorem look_k {n i k cu : Nat} (hn : n ≤ 2400000000000) (hik : i = k + 1) (hin : i ≤ n) (hcu : n ≤ cu) : decide ((0 : Int) < (i : Int)) = true ∧ decide (0 < i) = true ∧ (i : Int) - 1 = (k : Int) ∧ IntKind.i64.wrap ((i : Int) - 1) = (k : Int) ∧ wrap64 ((i : Int) - 1) = (k : Int) ∧ IntKind.i64.wrap (k : Int) = (k : Int) ∧ wrap64 (k : Int) = (k : Int) ∧ (0 : Int) ≤ (k : Int) ∧ (k : Int) < (n : Int) ∧ (0 : Int) ≤ (i : Int) ∧ (i : Int) ≤ (n : Int) ∧ (n : Int) ≤ (cu : Int) ∧ (i : Int) ≤ (cu : Int) := by
  obtain ⟨h1, h2⟩ := wrap_small (k : Int) (by omega) (by omega)
  have h3 : (i : Int) - 1 = (k : Int) := by omega
  refine ⟨decide_eq_true (by omega), decide_eq_true (by omega), h3, by rw [h3]; exact h2, by rw [h3]; exact h1, h2, h1, by omega, by omega, by omega, by omega, by omega, by omega⟩

theorem look_m {n : Nat} (hn : n ≤ 2400000000000) (h0 : 0 < n) : ∃ m : Nat, n = m + 1 ∧ (n : Int) - 1 = (m : Int) ∧ IntKind.i64.wrap ((n : Int) - 1) = (m : Int) ∧ wrap64 ((n : Int) - 1) = (m : Int) ∧ IntKind.i64.wrap (m : Int) = (m : Int) ∧ wrap64 (m : Int) = (m : Int) ∧ (0 : Int) ≤ (m : Int) ∧ (m : Int) < (n : Int) ∧ decide ((0 : Int) < (n : Int)) = true ∧ decide (0 < n) = true := by
  obtain ⟨m, rfl⟩ : ∃ m, n = m + 1 := ⟨n - 1, by omega⟩
  obtain ⟨h1, h2⟩ := wrap_small (m : Int) (by omega) (by omega)
  have h3 : ((m + 1 : Nat) : Int) - 1 = (m : Int) := by omega
  refine ⟨m, rfl, h3, by rw [h3]; exact h2, by rw [h3]; exact h1, h2, h1, by omega, by omega, decide_eq_true (by omega), decide_eq_true (by omega)⟩

theorem told_at {N : Nat} {u : Value} {o : List Vx} {l : List Vr} {W : World} (h : Told N u o l W) (i : Nat) (hi : i < o.length) : (o[i]).ver = l[i]'(by rw [← h.len]; exact hi) := by
  have := h.ver
  subst this
  rw [List.getElem_map]

theorem at_none {l : List Vr} {t : Int} (h : cutV l t = 0) : atV l t = none := by unfold atV; rw [if_pos h]
theorem at_some {l : List Vr} {t : Int} {k : Nat} (h : cutV l t = k + 1) (hk : k < l.length) : atV l t = some l[k] := by
  unfold atV
  rw [h, if_neg (by omega), Nat.add_sub_cancel, List.getElem?_eq_getElem hk]

/-- A list that was told, from k on. -/
theorem sameVs_tail {N M : Nat} {u : Value} {p : Option Addr} {cap : Nat} {o q : List Vx} {l m : List Vr} {W : World} (h : Told N u o l W) (k : Told M (.slice p q.length cap) q m W) (c : Nat) (hc : c ≤ q.length) (hl : ∀ v ∈ l, mayB v.val = true) (hm : ∀ v ∈ m, mayB v.val = true) (hf : l.length ≤ 2400000000000) :
    Calls Try.prog 12 #[u, tailV p q.length cap c] W fun r w' => r = .returned (.bool (decide (l = m.drop c))) ∧ Below W.heap.size W w' := by
  have := sameVs_any u (tailV p q.length cap c) o (q.drop c) W (Kind.own_is h.own) (tail_is k.own c hc) (h.fits hl) (fun x hx => k.fits hm x (List.mem_of_mem_drop hx)) (by rw [h.len]; unfold maxLen; omega)
  rw [h.ver, List.map_drop, k.ver] at this
  exact this

theorem tail_zero (p : Option Addr) (n cap : Nat) : tailV p n cap 0 = .slice p n cap := by
  unfold tailV
  cases p with
  | none => simp
  | some a => simp [Addr.add]

theorem at_drop0 {ops : Array Oper} {i : Nat} {oi : Oper} {rest : List Oper} (h : ops.toList.drop i = oi :: rest) : ops[i]? = some oi := by
  rw [← Array.getElem?_toList, ← List.head?_drop, h]; rfl

section
variable {P : Program} {ops : Array Oper} {Q : Exit → Act → World → Prop} {md : Region.Mode} {S : World → Prop}
/-- Operation number i of a drawn region is taken first: it yields v. -/
theorem take_val {i fuel : Nat} {listed : Array Bool} {a : Act} {w : World} (v : Value) {oi : Oper} {rest : List Oper} (hd : ops.toList.drop i = oi :: rest)
    (hs : Region.noSelect ops = true) (hf : Region.free md ops listed i = true) (hr : (Region.ready md ops listed).contains i = true)
    (hQ : ∀ c a w, Q (.panic c) (a.put oi.dst v) w → Q (.panic c) a w) (hw : Region.wanted oi (yielded ops a.tmps) = true) (hy : ∀ w, S w → (execOp a.eval oi).run P w = .ok (.value v) w) (hS : S w)
    (h : wpAnyH P md ops Q S fuel (listed.setIfInBounds i true) (a.put oi.dst v) w) : wpAnyH P md ops Q S (fuel + 1) listed a w :=
  wpAnyH_take (at_drop0 hd) hs hf hr hQ (Or.inl ⟨hw, hy⟩) hS h
/-- Operation number i of a drawn region is passed over. -/
theorem take_not {i fuel : Nat} {listed : Array Bool} {a : Act} {w : World} {oi : Oper} {rest : List Oper} (hd : ops.toList.drop i = oi :: rest)
    (hs : Region.noSelect ops = true) (hf : Region.free md ops listed i = true) (hr : (Region.ready md ops listed).contains i = true)
    (hQ : ∀ c a w, Q (.panic c) (a.put oi.dst undef) w → Q (.panic c) a w) (hw : Region.wanted oi (yielded ops a.tmps) = false) (hS : S w)
    (h : wpAnyH P md ops Q S fuel (listed.setIfInBounds i true) (a.put oi.dst undef) w) : wpAnyH P md ops Q S (fuel + 1) listed a w :=
  wpAnyH_take (at_drop0 hd) hs hf hr hQ (Or.inr ⟨hw, rfl⟩) hS h
end

set_option maxHeartbeats 800000 in
set_option maxRecDepth 100000 in
theorem looks_any (v : Value) (ops : List Ox) (t : Int) (w : World) (hv : KO.Is w v ops) (hx : ∀ x ∈ ops, OpAt w x) (hl : ops.length ≤ 2199023255552) :
    Calls Try.prog 7 #[v, .int .u64 t] w fun e w' => e = .returned (.bool true) ∧ Below w.heap.size w w' := by
  have HF := hid (fixed_any w)
  have HLD : Hid (∀ W, Below w.heap.size w W → Calls Try.prog 15 #[v] W fun e w' => ∃ g, e = .returned (.pointer (some ⟨g, 0, none⟩)) ∧ ChSt W.heap.size g (laidV ops) w' ∧ (lastV (laidV ops)).num ≤ 2199023255552 ∧ Below W.heap.size W w') := fun W hW => st_laid v ops W (Kind.is_kept hv hW) (fun x hx' => (hx x hx').on hW) hl
  obtain ⟨p, cap, rfl, _⟩ := hv
  clear hx hl
  go_enter Try.func7, Try.ntmps7
  go_wp2_with fail
  refine HF.out.mono ?_
  rintro e w1 ⟨rfl, hb1⟩
  have HL1 := hid (HLD.out w1 hb1)
  have HB1 := hid hb1
  clear hb1 HF HLD
  go_wp2_with fail
  refine HL1.out.mono ?_
  rintro e w2 ⟨g, rfl, hC2, _, hb2⟩
  generalize laidV ops = l at hC2
  have HB2 := hid (bel_then HB1.out HB1.out.size hb2)
  have HC2 := hid hC2
  have HAL := hid (st_all hC2)
  clear hC2 hb2 HL1 HB1
  go_wp2_with fail
  refine HAL.out.mono ?_
  intro e w3 hp3
  obtain ⟨u, o, rfl, ht3, hb3⟩ := all_told hp3
  have HC3 := hid (HC2.out.on hb3)
  have HB3 := hid (bel_then HB2.out HB2.out.size hb3)
  have HOL := hid ht3.len
  have hof : o.length ≤ 2400000000000 := by have := HC2.out.few; have := ht3.len; omega
  obtain ⟨pu, cu, rfl⟩ := Kind.own_shape ht3.own
  have hcu := own_caps ht3.own
  have hcm : cu ≤ maxLen := by
    rcases ht3.own.2 with ⟨h1, _⟩ | ⟨_, c, _, h1, _, _, _, h2, _⟩
    · injection h1 with _ _ e; rw [e]; exact Nat.zero_le _
    · injection h1 with _ _ e; rw [e]; exact h2
  unfold maxLen at hcm
  have hcap := hcu.1
  have HPN := hid hcu.2
  have HP : Hid (0 < o.length → ∃ b, pu = some ⟨b, 0, none⟩) := fun h0 => by
    rcases ht3.own.2 with ⟨h, h'⟩ | ⟨b, _, _, h, _⟩
    · omega
    · injection h with h2 _ _; exact ⟨b, h2⟩
  have HT3 := hid ht3
  have HR : Hid (∀ k, (hk : k < o.length) → ((o[k]).stamp ≤ t ↔ k < cutV l t)) := by
    have hr := HC2.out.ok.rise
    rw [← ht3.ver] at hr ⊢
    exact fun k hk => cut_lt hr t k hk
  have hcl : cutV l t ≤ o.length := by rw [ht3.len]; exact cutV_le l t
  have HAT := hid (st_at HC3.out t)
  have HA0 : Hid (cutV l t = 0 → atV l t = none) := at_none
  have HA1 : Hid (∀ k, cutV l t = k + 1 → ∃ hk : k < o.length, atV l t = some (o[k]).ver) := fun k hk => by
    have hkl : k < o.length := by omega
    refine ⟨hkl, ?_⟩
    rw [at_some hk (by rw [← ht3.len]; exact hkl), told_at ht3 k hkl]
  have HSI : Hid (∀ W, Below w3.heap.size w3 W → Calls Try.prog 19 #[.pointer (some ⟨g, 0, none⟩), .int .u64 t] W fun e w' => AllPost W (l.drop (cutV l t)) e w') := fun W hW => st_since (HC3.out.on hW) t
  have HLA : Hid (∀ W, Below w3.heap.size w3 W → Calls Try.prog 20 #[.pointer (some ⟨g, 0, none⟩)] W fun e w' => VAns W l.getLast? e w') := fun W hW => st_last (HC3.out.on hW)
  have HL0 : Hid (o.length = 0 → l.getLast? = none) := fun h => by
    have : l.length = 0 := by rw [← HOL.out]; exact h
    rw [List.length_eq_zero_iff.1 this]; rfl
  have HL1 : Hid (∀ m, o.length = m + 1 → ∃ hm : m < o.length, l.getLast? = some (o[m]).ver) := fun m hm => by
    have hml : m < o.length := by omega
    refine ⟨hml, ?_⟩
    have e : l.length - 1 = m := by rw [← HOL.out]; omega
    rw [List.getLast?_eq_getElem?, e, List.getElem?_eq_getElem (by rw [← HOL.out]; exact hml), told_at HT3.out m hml]
  have HXF : Hid (∀ k, (hk : k < o.length) → FitX (o[k]).o) := fun k hk => (HT3.out.fits HC2.out.may _ (List.getElem_mem hk)).2
  have HMAY := hid HC2.out.may
  have HSVS : Hid (∀ (N : Nat) (u' : Value) (o' : List Vx) (W : World), Told N u' o' (l.drop (cutV l t)) W → Below w3.heap.size w3 W → Calls Try.prog 12 #[u', tailV pu o.length cu (cutV l t)] W fun r w' => r = .returned (.bool true) ∧ Below W.heap.size W w') := fun N u' o' W h1 h2 => by
    have := sameVs_tail h1 (HT3.out.on h2) (cutV l t) hcl (fun v hv => HMAY.out v (List.mem_of_mem_drop hv)) HMAY.out (by have := HC2.out.few; rw [List.length_drop]; omega)
    rw [decide_eq_true rfl] at this
    exact this
  obtain ⟨c, hc⟩ : ∃ c, cutV l t = c := ⟨_, rfl⟩
  rw [hc] at HR hcl HA0 HA1 HSI HSVS
  clear hp3 hb3 ht3 HAL HB2 HC2 hc hcu
  go_upto_block 0 with fail
  go_cut [7] from 18 (fun vi wx => vi = .int .i64 c ∧ w3 = wx)
  case first =>
    go_wp2_with fail
    go_loopg [7] o.length (fun gg vi wr => ∃ i : Nat, vi = .int .i64 i ∧ i ≤ c ∧ c - i ≤ gg ∧ wr = w3)
    case atStart => exact ⟨0, rfl, by omega, by omega, rfl⟩
    case round =>
      obtain ⟨i, rfl, hi, hgk, rfl⟩ := hrel
      by_cases hlt : i < c
      · have hio : i < o.length := by omega
        have hltz : (i : Int) < (o.length : Int) := by omega
        have hiz : (0 : Int) ≤ i := by omega
        obtain ⟨b, rfl⟩ := HP.out (by omega)
        have hst := (HR.out i hio).2 hlt
        have y1 := (kv_at (own_atV HT3.out.own (by omega)) i hio).2.1
        rw [Nat.zero_add] at y1
        generalize o[i] = x at *
        obtain ⟨xn, xs, xt, xl, xp, xc, xo⟩ := x
        simp only at y1 hst
        go_wp2_with fail
        go_roundg (c - (i + 1))
        case measure => omega
        exact ⟨i + 1, by go_num, by omega, by omega, rfl⟩
      · have hic : i = c := by omega
        subst hic
        have hcase : (¬ (i : Int) < (o.length : Int)) ∨ ∃ b xs, pu = some ⟨b, 0, none⟩ ∧ (0 : Int) ≤ i ∧ (i : Int) < (o.length : Int) ∧ wr.cell? ⟨b, i * 5 + 1, none⟩ = some (.int .u64 xs) ∧ ¬ xs ≤ t := by
          by_cases hio : i < o.length
          · right
            obtain ⟨b, hb⟩ := HP.out (by omega)
            subst hb
            have y1 := (kv_at (own_atV HT3.out.own (by omega)) i hio).2.1
            rw [Nat.zero_add] at y1
            exact ⟨b, _, rfl, by omega, by omega, y1, fun h => by have := (HR.out i hio).1 h; omega⟩
          · left; omega
        clear HR
        rcases hcase with h1 | ⟨b, xs, rfl, h1, h2, y1, h3⟩
        all_goals
          go_wp2_with fail
          go_meet
          exact ⟨rfl, rfl⟩
  case rest =>
    obtain ⟨rfl, rfl⟩ := hcut
    clear HR
    go_wp2_with fail
    refine HAT.out.mono ?_
    rintro e w4 ⟨x4, rfl, hx4, hJ4, hb4⟩
    have hba : Below w3.heap.size w3 (w4.alloc (.cells (encVx x4).toArray 41)) := hb4.alloc hb4.size _
    have HV4 : Hid (VerAt (w4.alloc (.cells (encVx x4).toArray 41)) w4.heap.size x4) := heap_alloc_new w4 _
    obtain ⟨A4, hA4⟩ : ∃ A4, w4.heap.size = A4 := ⟨_, rfl⟩
    rw [hA4] at HV4
    have HX4 := hid hx4
    have h4at : x4.at w4 := hJ4.1.is
    have HX4A : Hid (x4.at (w4.alloc (.cells (encVx x4).toArray 41))) := h4at.kept ((Below.refl _ _).alloc (Nat.le_refl _) _)
    have HB4 := hid hba
    obtain ⟨B, hB⟩ : ∃ B, (atV l t).isSome = B := ⟨_, rfl⟩
    rw [hB]
    have HBB := hid hB
    clear hx4 hJ4 hb4 hba HAT h4at hB
    obtain ⟨xn4, xs4, xt4, xl4, xp4, xc4, xo4⟩ := x4
    simp only [encVx, Vx.sl] at HV4 HB4 ⊢
    go_upto_region 9 with fail
    try rw [hA4]
    go_cut [7, 9, 65] from 33 (fun _ _ v wx => v = .bool false ∧ Hid (Below w3.heap.size w3 wx))
    case first =>
      rcases Nat.eq_zero_or_pos c with hc0 | hc0
      · subst hc0
        have hat := HA0.out rfl
        have hB0 : B = false := by rw [← HBB.out, hat]; rfl
        subst hB0
        clear hat HA0 HA1 HX4 HX4A HV4 HBB hA4 HLA HL0 HL1 HXF HMAY HT3 HOL HC3 hof hcm
        have etl : tailV pu o.length cu 0 = .slice pu o.length cu := tail_zero pu o.length cu
        rw [etl] at HSVS
        clear etl
        have j3 : (o.length : Int) ≤ (cu : Int) := by omega
        have j1 : (0 : Int) ≤ (o.length : Int) := by omega
        have j4 : (0 : Int) ≤ (cu : Int) := by omega
        refine wp_region_held_drew (S := fun _ => True) (by kernel_rfl) trivial (fun hHeld => ?_)
        refine take_val (i := 0) (.bool false) rfl (by kernel_rfl) (by kernel_rfl) (by kernel_rfl) (fun _ _ _ h => h) (by rfl) (fun w hSw => by go_simp) hHeld ?_
        simp only [Act.put, List.setIfInBounds_toArray, List.set_cons_zero, List.set_cons_succ]
        refine take_val (i := 1) (.int .i64 0) rfl (by kernel_rfl) (by kernel_rfl) (by kernel_rfl) (fun _ _ _ h => h) (by rfl) (fun w hSw => by go_simp) hHeld ?_
        simp only [Act.put, List.setIfInBounds_toArray, List.set_cons_zero, List.set_cons_succ]
        refine take_val (i := 2) (.bool false) rfl (by kernel_rfl) (by kernel_rfl) (by kernel_rfl) (fun _ _ _ h => h) (by rfl) (fun w hSw => by go_simp) hHeld ?_
        simp only [Act.put, List.setIfInBounds_toArray, List.set_cons_zero, List.set_cons_succ]
        refine take_val (i := 3) (.bool false) rfl (by kernel_rfl) (by kernel_rfl) (by kernel_rfl) (fun _ _ _ h => h) (by rfl) (fun w hSw => by go_simp) hHeld ?_
        simp only [Act.put, List.setIfInBounds_toArray, List.set_cons_zero, List.set_cons_succ]
        refine take_val (i := 4) (.bool false) rfl (by kernel_rfl) (by kernel_rfl) (by kernel_rfl) (fun _ _ _ h => h) (by rfl) (fun w hSw => by go_simp) hHeld ?_
        simp only [Act.put, List.setIfInBounds_toArray, List.set_cons_zero, List.set_cons_succ]
        refine take_val (i := 5) (.bool false) rfl (by kernel_rfl) (by kernel_rfl) (by kernel_rfl) (fun _ _ _ h => h) (by rfl) (fun w hSw => by go_simp) hHeld ?_
        simp only [Act.put, List.setIfInBounds_toArray, List.set_cons_zero, List.set_cons_succ]
        refine take_val (i := 6) (.bool false) rfl (by kernel_rfl) (by kernel_rfl) (by kernel_rfl) (fun _ _ _ h => h) (by rfl) (fun w hSw => by go_simp) hHeld ?_
        simp only [Act.put, List.setIfInBounds_toArray, List.set_cons_zero, List.set_cons_succ]
        refine take_not (i := 7) rfl (by kernel_rfl) (by kernel_rfl) (by kernel_rfl) (fun _ _ _ h => h) (by rfl) hHeld ?_
        simp only [Act.put, List.setIfInBounds_toArray, List.set_cons_zero, List.set_cons_succ]
        refine take_not (i := 8) rfl (by kernel_rfl) (by kernel_rfl) (by kernel_rfl) (fun _ _ _ h => h) (by rfl) hHeld ?_
        simp only [Act.put, List.setIfInBounds_toArray, List.set_cons_zero, List.set_cons_succ]
        refine take_not (i := 9) rfl (by kernel_rfl) (by kernel_rfl) (by kernel_rfl) (fun _ _ _ h => h) (by rfl) hHeld ?_
        simp only [Act.put, List.setIfInBounds_toArray, List.set_cons_zero, List.set_cons_succ]
        refine take_not (i := 10) rfl (by kernel_rfl) (by kernel_rfl) (by kernel_rfl) (fun _ _ _ h => h) (by rfl) hHeld ?_
        simp only [Act.put, List.setIfInBounds_toArray, List.set_cons_zero, List.set_cons_succ]
        refine take_not (i := 11) rfl (by kernel_rfl) (by kernel_rfl) (by kernel_rfl) (fun _ _ _ h => h) (by rfl) hHeld ?_
        simp only [Act.put, List.setIfInBounds_toArray, List.set_cons_zero, List.set_cons_succ]
        refine take_not (i := 12) rfl (by kernel_rfl) (by kernel_rfl) (by kernel_rfl) (fun _ _ _ h => h) (by rfl) hHeld ?_
        simp only [Act.put, List.setIfInBounds_toArray, List.set_cons_zero, List.set_cons_succ]
        refine take_not (i := 13) rfl (by kernel_rfl) (by kernel_rfl) (by kernel_rfl) (fun _ _ _ h => h) (by rfl) hHeld ?_
        simp only [Act.put, List.setIfInBounds_toArray, List.set_cons_zero, List.set_cons_succ]
        refine take_not (i := 14) rfl (by kernel_rfl) (by kernel_rfl) (by kernel_rfl) (fun _ _ _ h => h) (by rfl) hHeld ?_
        simp only [Act.put, List.setIfInBounds_toArray, List.set_cons_zero, List.set_cons_succ]
        refine take_val (i := 15) (.bool false) rfl (by kernel_rfl) (by kernel_rfl) (by kernel_rfl) (fun _ _ _ h => h) (by rfl) (fun w hSw => by go_simp) hHeld ?_
        simp only [Act.put, List.setIfInBounds_toArray, List.set_cons_zero, List.set_cons_succ]
        refine take_val (i := 16) (.bool false) rfl (by kernel_rfl) (by kernel_rfl) (by kernel_rfl) (fun _ _ _ h => h) (by rfl) (fun w hSw => by go_simp) hHeld ?_
        simp only [Act.put, List.setIfInBounds_toArray, List.set_cons_zero, List.set_cons_succ]
        refine take_val (i := 17) (.bool false) rfl (by kernel_rfl) (by kernel_rfl) (by kernel_rfl) (fun _ _ _ h => h) (by rfl) (fun w hSw => by go_simp) hHeld ?_
        simp only [Act.put, List.setIfInBounds_toArray, List.set_cons_zero, List.set_cons_succ]
        refine take_val (i := 18) (.pointer (some ⟨g, 0, none⟩)) rfl (by kernel_rfl) (by kernel_rfl) (by kernel_rfl) (fun _ _ _ h => h) (by rfl) (fun w hSw => by go_simp) hHeld ?_
        simp only [Act.put, List.setIfInBounds_toArray, List.set_cons_zero, List.set_cons_succ]
        refine take_val (i := 19) (.int .u64 t) rfl (by kernel_rfl) (by kernel_rfl) (by kernel_rfl) (fun _ _ _ h => h) (by rfl) (fun w hSw => by go_simp) hHeld ?_
        simp only [Act.put, List.setIfInBounds_toArray, List.set_cons_zero, List.set_cons_succ]
        refine take_val (i := 21) (.slice pu o.length cu) rfl (by kernel_rfl) (by kernel_rfl) (by kernel_rfl) (fun _ _ _ h => h) (by rfl) (fun w hSw => by go_simp) hHeld ?_
        simp only [Act.put, List.setIfInBounds_toArray, List.set_cons_zero, List.set_cons_succ]
        refine take_val (i := 22) (.int .i64 0) rfl (by kernel_rfl) (by kernel_rfl) (by kernel_rfl) (fun _ _ _ h => h) (by rfl) (fun w hSw => by go_simp) hHeld ?_
        simp only [Act.put, List.setIfInBounds_toArray, List.set_cons_zero, List.set_cons_succ]
        refine take_val (i := 23) (.slice pu o.length cu) rfl (by kernel_rfl) (by kernel_rfl) (by kernel_rfl) (fun _ _ _ h => h) (by rfl) (fun w hSw => by go_simp) hHeld ?_
        simp only [Act.put, List.setIfInBounds_toArray, List.set_cons_zero, List.set_cons_succ]
        refine wpAnyH_ready (rs := [20]) (by kernel_rfl) (by simp) ?_
        refine AllReadyH.cons (at_drop0 rfl) (fun K hK => ?_) AllReadyH.nil
        rw [if_pos (by rfl)]
        go_simp
        refine (HSI.out _ HB4.out.drew).mono ?_
        intro e w10 hp10
        obtain ⟨u10, o10, rfl, ht10, hb10⟩ := all_told hp10
        have HT10 := hid ht10
        obtain ⟨p10, c10, rfl⟩ := Kind.own_shape ht10.own
        have HB10 := hid (bel_then HB4.out.drew HB4.out.drew.size hb10)
        clear hp10 ht10 hb10
        go_wp2_with fail
        refine hK.out _ _ trivial (fun hHeld => ?_)
        clear hK K
        try simp only [Act.put, List.setIfInBounds_toArray, List.set_cons_zero, List.set_cons_succ]
        refine wpAnyH_ready (rs := [24]) (by kernel_rfl) (by simp) ?_
        refine AllReadyH.cons (at_drop0 rfl) (fun K hK => ?_) AllReadyH.nil
        rw [if_pos (by rfl)]
        go_simp
        refine (HSVS.out _ _ _ _ HT10.out HB10.out).mono ?_
        rintro e w11 ⟨rfl, hb11⟩
        have HB11 := hid (bel_then HB10.out HB10.out.size hb11)
        clear hb11
        go_wp2_with fail
        refine hK.out _ _ trivial (fun hHeld => ?_)
        clear hK K
        try simp only [Act.put, List.setIfInBounds_toArray, List.set_cons_zero, List.set_cons_succ]
        refine take_val (i := 25) (.bool false) rfl (by kernel_rfl) (by kernel_rfl) (by kernel_rfl) (fun _ _ _ h => h) (by rfl) (fun w hSw => by go_simp) hHeld ?_
        simp only [Act.put, List.setIfInBounds_toArray, List.set_cons_zero, List.set_cons_succ]
        refine take_val (i := 26) (.bool false) rfl (by kernel_rfl) (by kernel_rfl) (by kernel_rfl) (fun _ _ _ h => h) (by rfl) (fun w hSw => by go_simp) hHeld ?_
        simp only [Act.put, List.setIfInBounds_toArray, List.set_cons_zero, List.set_cons_succ]
        refine wpAnyH_done (by kernel_rfl) ?_ _
        go_wp2_with fail
        go_meet
        exact ⟨rfl, HB11.out⟩
      · obtain ⟨k, hik⟩ : ∃ k, c = k + 1 := ⟨c - 1, by omega⟩
        obtain ⟨hk, hat⟩ := HA1.out k hik
        have hB0 : B = true := by rw [← HBB.out, hat]; rfl
        subst hB0
        rw [hat] at HX4
        have HX4V : Hid ((⟨xn4, xs4, xt4, xl4, xp4, xc4, xo4⟩ : Vx).ver = (o[k]).ver) := HX4.out
        obtain ⟨b, hpu⟩ := HP.out (by omega)
        have HSV1 : Hid (∀ W, Below w3.heap.size w3 W → Vx.at W ⟨xn4, xs4, xt4, xl4, xp4, xc4, xo4⟩ → Calls Try.prog 18 #[.agg #[.int .i64 xn4, .int .u64 xs4, .int .i64 xt4, .bool xl4, .slice xp4 xo4.length xc4], .agg (encVx o[k]).toArray] W fun e w' => e = .returned (.bool true) ∧ Below W.heap.size W w') := fun W hW h4a => by
          have h4 : FitX xo4 := vans_fit (x := ⟨xn4, xs4, xt4, xl4, xp4, xc4, xo4⟩) (o := some (o[k]).ver) HX4.out fun v hv => by
            cases hv
            exact HMAY.out _ (by rw [told_at HT3.out k hk]; exact List.getElem_mem _)
          have h5 := sameV_any ⟨xn4, xs4, xt4, xl4, xp4, xc4, xo4⟩ o[k] W h4a ((HT3.out.on hW).each _ (List.getElem_mem hk)).1.is h4 (HXF.out k hk)
          rw [decide_eq_true HX4V.out] at h5
          exact h5
        have HK : Hid (∀ W, Below w3.heap.size w3 W → CellsV W b (k * 5) o[k]) := fun W hW => by
          have h2 := kv_at (own_atV (by have := (HT3.out.on hW).own; rw [hpu] at this; exact this) (by omega)) k hk
          rw [Nat.zero_add] at h2
          exact h2
        have HPU := hid hpu
        have HV : Hid (∀ W, Below (w4.alloc (.cells #[.int .i64 xn4, .int .u64 xs4, .int .i64 xt4, .bool xl4, .slice xp4 xo4.length xc4] 41)).heap.size (w4.alloc (.cells #[.int .i64 xn4, .int .u64 xs4, .int .i64 xt4, .bool xl4, .slice xp4 xo4.length xc4] 41)) W → (CellsV W A4 0 ⟨xn4, xs4, xt4, xl4, xp4, xc4, xo4⟩ ∧ CellsV W b (k * 5) o[k]) ∧ Vx.at W ⟨xn4, xs4, xt4, xl4, xp4, xc4, xo4⟩ ∧ Below w3.heap.size w3 W) := fun W hW =>
          have hW' := bel_then HB4.out HB4.out.size hW
          ⟨⟨(HV4.out.on hW).cells, HK.out W hW'⟩, HX4A.out.kept hW, hW'⟩
        obtain ⟨hd1, hd2, hiz, hwi, hwi', hwk, hwk', k0, kl, j1, j2, j3, j4⟩ := look_k hof hik hcl hcap
        obtain ⟨w5, hw5⟩ : ∃ w5, w4.alloc (.cells #[.int .i64 xn4, .int .u64 xs4, .int .i64 xt4, .bool xl4, .slice xp4 xo4.length xc4] 41) = w5 := ⟨_, rfl⟩
        rw [hw5] at HV ⊢
        clear hik hc0 hpu hat HX4 HX4V HX4A HK HV4 HB4 hA4 HA0 HA1 HBB HXF HMAY HT3 HOL HC3 HL0 HL1 HLA hof hcm hcap hcl HP hw5
        obtain ⟨pt, hpt⟩ : ∃ pt, tailV pu o.length cu c = pt := ⟨_, rfl⟩
        rw [hpt] at HSVS
        have HPT := hid hpt
        clear hpt
        generalize o[k] = xk at *
        obtain ⟨yn, ys, yt, yl, yp, yc, yo⟩ := xk
        simp only [CellsV, encVx, Vx.sl, Nat.zero_add] at HV HSV1
        have HB5 : Hid (Below w5.heap.size w5 w5.drew) := (Below.refl _ _).drew
        refine wp_region_held_drew (S := fun w' => (w'.cell? ⟨A4, 0, none⟩ = some (.int .i64 xn4) ∧ w'.cell? ⟨A4, 1, none⟩ = some (.int .u64 xs4) ∧ w'.cell? ⟨A4, 2, none⟩ = some (.int .i64 xt4) ∧ w'.cell? ⟨A4, 3, none⟩ = some (.bool xl4) ∧ w'.cell? ⟨A4, 4, none⟩ = some (.slice xp4 xo4.length xc4)) ∧ w'.cell? ⟨b, k * 5, none⟩ = some (.int .i64 yn) ∧ w'.cell? ⟨b, k * 5 + 1, none⟩ = some (.int .u64 ys) ∧ w'.cell? ⟨b, k * 5 + 2, none⟩ = some (.int .i64 yt) ∧ w'.cell? ⟨b, k * 5 + 3, none⟩ = some (.bool yl) ∧ w'.cell? ⟨b, k * 5 + 4, none⟩ = some (.slice yp yo.length yc)) (by kernel_rfl) (HV.out _ HB5.out).1 (fun hHeld => ?_)
        refine take_val (i := 0) (.bool true) rfl (by kernel_rfl) (by kernel_rfl) (by kernel_rfl) (fun _ _ _ h => h) (by rfl) (fun w hSw => by go_simp) hHeld ?_
        simp only [Act.put, List.setIfInBounds_toArray, List.set_cons_zero, List.set_cons_succ]
        refine take_val (i := 1) (.int .i64 c) rfl (by kernel_rfl) (by kernel_rfl) (by kernel_rfl) (fun _ _ _ h => h) (by rfl) (fun w hSw => by go_simp) hHeld ?_
        simp only [Act.put, List.setIfInBounds_toArray, List.set_cons_zero, List.set_cons_succ]
        refine take_val (i := 2) (.bool true) rfl (by kernel_rfl) (by kernel_rfl) (by kernel_rfl) (fun _ _ _ h => h) (by rfl) (fun w hSw => by go_simp) hHeld ?_
        simp only [Act.put, List.setIfInBounds_toArray, List.set_cons_zero, List.set_cons_succ]
        refine take_val (i := 3) (.bool false) rfl (by kernel_rfl) (by kernel_rfl) (by kernel_rfl) (fun _ _ _ h => h) (by rfl) (fun w hSw => by go_simp) hHeld ?_
        simp only [Act.put, List.setIfInBounds_toArray, List.set_cons_zero, List.set_cons_succ]
        refine take_val (i := 4) (.bool false) rfl (by kernel_rfl) (by kernel_rfl) (by kernel_rfl) (fun _ _ _ h => h) (by rfl) (fun w hSw => by go_simp) hHeld ?_
        simp only [Act.put, List.setIfInBounds_toArray, List.set_cons_zero, List.set_cons_succ]
        refine take_val (i := 5) (.bool true) rfl (by kernel_rfl) (by kernel_rfl) (by kernel_rfl) (fun _ _ _ h => h) (by rfl) (fun w hSw => by go_simp) hHeld ?_
        simp only [Act.put, List.setIfInBounds_toArray, List.set_cons_zero, List.set_cons_succ]
        refine take_val (i := 6) (.bool true) rfl (by kernel_rfl) (by kernel_rfl) (by kernel_rfl) (fun _ _ _ h => h) (by rfl) (fun w hSw => by go_simp) hHeld ?_
        simp only [Act.put, List.setIfInBounds_toArray, List.set_cons_zero, List.set_cons_succ]
        refine take_val (i := 7) (.agg #[.int .i64 xn4, .int .u64 xs4, .int .i64 xt4, .bool xl4, .slice xp4 xo4.length xc4]) rfl (by kernel_rfl) (by kernel_rfl) (by kernel_rfl) (fun _ _ _ h => h) (by rfl) (fun w hSw => by go_simp) hHeld ?_
        simp only [Act.put, List.setIfInBounds_toArray, List.set_cons_zero, List.set_cons_succ]
        refine take_val (i := 8) (.slice pu o.length cu) rfl (by kernel_rfl) (by kernel_rfl) (by kernel_rfl) (fun _ _ _ h => h) (by rfl) (fun w hSw => by go_simp) hHeld ?_
        simp only [Act.put, List.setIfInBounds_toArray, List.set_cons_zero, List.set_cons_succ]
        refine take_val (i := 9) (.int .i64 c) rfl (by kernel_rfl) (by kernel_rfl) (by kernel_rfl) (fun _ _ _ h => h) (by rfl) (fun w hSw => by go_simp) hHeld ?_
        simp only [Act.put, List.setIfInBounds_toArray, List.set_cons_zero, List.set_cons_succ]
        refine take_val (i := 10) (.int .i64 k) rfl (by kernel_rfl) (by kernel_rfl) (by kernel_rfl) (fun _ _ _ h => h) (by rfl) (fun w hSw => by go_simp) hHeld ?_
        simp only [Act.put, List.setIfInBounds_toArray, List.set_cons_zero, List.set_cons_succ]
        refine take_val (i := 11) (.pointer (some ⟨b, k * 5, none⟩)) rfl (by kernel_rfl) (by kernel_rfl) (by kernel_rfl) (fun _ _ _ h => h) (by rfl) (fun w hSw => by have hpu := HPU.out; go_simp) hHeld ?_
        simp only [Act.put, List.setIfInBounds_toArray, List.set_cons_zero, List.set_cons_succ]
        refine take_val (i := 12) (.agg #[.int .i64 yn, .int .u64 ys, .int .i64 yt, .bool yl, .slice yp yo.length yc]) rfl (by kernel_rfl) (by kernel_rfl) (by kernel_rfl) (fun _ _ _ h => h) (by rfl) (fun w hSw => by go_simp) hHeld ?_
        simp only [Act.put, List.setIfInBounds_toArray, List.set_cons_zero, List.set_cons_succ]
        refine wpAnyH_ready (rs := [13]) (by kernel_rfl) (by simp) ?_
        refine AllReadyH.cons (at_drop0 rfl) (fun K hK => ?_) AllReadyH.nil
        rw [if_pos (by rfl)]
        go_simp
        refine (HSV1.out _ (HV.out _ HB5.out).2.2 (HV.out _ HB5.out).2.1).mono ?_
        rintro e w9 ⟨rfl, hb9⟩
        have HB9 := hid (bel_then HB5.out HB5.out.size hb9)
        clear hb9 hHeld
        go_wp2_with fail
        refine hK.out _ _ (HV.out w9 HB9.out).1 (fun hHeld => ?_)
        clear hK K
        try simp only [Act.put, List.setIfInBounds_toArray, List.set_cons_zero, List.set_cons_succ]
        refine take_val (i := 14) (.bool false) rfl (by kernel_rfl) (by kernel_rfl) (by kernel_rfl) (fun _ _ _ h => h) (by rfl) (fun w hSw => by go_simp) hHeld ?_
        simp only [Act.put, List.setIfInBounds_toArray, List.set_cons_zero, List.set_cons_succ]
        refine take_val (i := 15) (.bool false) rfl (by kernel_rfl) (by kernel_rfl) (by kernel_rfl) (fun _ _ _ h => h) (by rfl) (fun w hSw => by go_simp) hHeld ?_
        simp only [Act.put, List.setIfInBounds_toArray, List.set_cons_zero, List.set_cons_succ]
        refine take_val (i := 16) (.bool false) rfl (by kernel_rfl) (by kernel_rfl) (by kernel_rfl) (fun _ _ _ h => h) (by rfl) (fun w hSw => by go_simp) hHeld ?_
        simp only [Act.put, List.setIfInBounds_toArray, List.set_cons_zero, List.set_cons_succ]
        refine take_val (i := 17) (.bool false) rfl (by kernel_rfl) (by kernel_rfl) (by kernel_rfl) (fun _ _ _ h => h) (by rfl) (fun w hSw => by go_simp) hHeld ?_
        simp only [Act.put, List.setIfInBounds_toArray, List.set_cons_zero, List.set_cons_succ]
        refine take_val (i := 18) (.pointer (some ⟨g, 0, none⟩)) rfl (by kernel_rfl) (by kernel_rfl) (by kernel_rfl) (fun _ _ _ h => h) (by rfl) (fun w hSw => by go_simp) hHeld ?_
        simp only [Act.put, List.setIfInBounds_toArray, List.set_cons_zero, List.set_cons_succ]
        refine take_val (i := 19) (.int .u64 t) rfl (by kernel_rfl) (by kernel_rfl) (by kernel_rfl) (fun _ _ _ h => h) (by rfl) (fun w hSw => by go_simp) hHeld ?_
        simp only [Act.put, List.setIfInBounds_toArray, List.set_cons_zero, List.set_cons_succ]
        refine take_val (i := 21) (.slice pu o.length cu) rfl (by kernel_rfl) (by kernel_rfl) (by kernel_rfl) (fun _ _ _ h => h) (by rfl) (fun w hSw => by go_simp) hHeld ?_
        simp only [Act.put, List.setIfInBounds_toArray, List.set_cons_zero, List.set_cons_succ]
        refine take_val (i := 22) (.int .i64 c) rfl (by kernel_rfl) (by kernel_rfl) (by kernel_rfl) (fun _ _ _ h => h) (by rfl) (fun w hSw => by go_simp) hHeld ?_
        simp only [Act.put, List.setIfInBounds_toArray, List.set_cons_zero, List.set_cons_succ]
        refine take_val (i := 23) (pt) rfl (by kernel_rfl) (by kernel_rfl) (by kernel_rfl) (fun _ _ _ h => h) (by rfl) (fun w hSw => by rw [← HPT.out]; unfold tailV; go_simp) hHeld ?_
        simp only [Act.put, List.setIfInBounds_toArray, List.set_cons_zero, List.set_cons_succ]
        refine wpAnyH_ready (rs := [20]) (by kernel_rfl) (by simp) ?_
        refine AllReadyH.cons (at_drop0 rfl) (fun K hK => ?_) AllReadyH.nil
        rw [if_pos (by rfl)]
        go_simp
        refine (HSI.out w9 (HV.out w9 HB9.out).2.2).mono ?_
        intro e w10 hp10
        obtain ⟨u10, o10, rfl, ht10, hb10⟩ := all_told hp10
        have HT10 := hid ht10
        obtain ⟨p10, c10, rfl⟩ := Kind.own_shape ht10.own
        have HB10 := hid (bel_then HB9.out HB9.out.size hb10)
        clear hp10 ht10 hb10 hHeld
        go_wp2_with fail
        refine hK.out _ _ (HV.out w10 HB10.out).1 (fun hHeld => ?_)
        clear hK K
        try simp only [Act.put, List.setIfInBounds_toArray, List.set_cons_zero, List.set_cons_succ]
        refine wpAnyH_ready (rs := [24]) (by kernel_rfl) (by simp) ?_
        refine AllReadyH.cons (at_drop0 rfl) (fun K hK => ?_) AllReadyH.nil
        rw [if_pos (by rfl)]
        go_simp
        refine (HSVS.out _ _ _ _ HT10.out (HV.out w10 HB10.out).2.2).mono ?_
        rintro e w11 ⟨rfl, hb11⟩
        have HB11 := hid (bel_then HB10.out HB10.out.size hb11)
        clear hb11 hHeld
        go_wp2_with fail
        refine hK.out _ _ (HV.out w11 HB11.out).1 (fun hHeld => ?_)
        clear hK K
        try simp only [Act.put, List.setIfInBounds_toArray, List.set_cons_zero, List.set_cons_succ]
        refine take_val (i := 25) (.bool false) rfl (by kernel_rfl) (by kernel_rfl) (by kernel_rfl) (fun _ _ _ h => h) (by rfl) (fun w hSw => by go_simp) hHeld ?_
        simp only [Act.put, List.setIfInBounds_toArray, List.set_cons_zero, List.set_cons_succ]
        refine take_val (i := 26) (.bool false) rfl (by kernel_rfl) (by kernel_rfl) (by kernel_rfl) (fun _ _ _ h => h) (by rfl) (fun w hSw => by go_simp) hHeld ?_
        simp only [Act.put, List.setIfInBounds_toArray, List.set_cons_zero, List.set_cons_succ]
        refine wpAnyH_done (by kernel_rfl) ?_ _
        have HE11 := hid (HV.out w11 HB11.out).2.2
        clear hHeld hwi hwi' hwk hwk' hiz hd1 hd2
        go_wp2_with fail
        go_meet
        exact ⟨rfl, HE11.out⟩
    case rest =>
      obtain ⟨rfl, HB11⟩ := hcut
      clear HA0 HA1 HSI HSVS HX4 HX4A HV4 HB4 HBB hA4 hcl
      go_wp2_with fail
      refine (HLA.out wc HB11.out).mono ?_
      rintro e w12 ⟨x12, rfl, hx12, hJ12, hb12⟩
      have hba : Below wc.heap.size wc (w12.alloc (.cells (encVx x12).toArray 41)) := hb12.alloc hb12.size _
      have HV12 : Hid (VerAt (w12.alloc (.cells (encVx x12).toArray 41)) w12.heap.size x12) := heap_alloc_new w12 _
      obtain ⟨A12, hA12⟩ : ∃ A12, w12.heap.size = A12 := ⟨_, rfl⟩
      rw [hA12] at HV12
      have HX12 := hid hx12
      have h12at : x12.at w12 := hJ12.1.is
      have HX12A : Hid (x12.at (w12.alloc (.cells (encVx x12).toArray 41))) := h12at.kept ((Below.refl _ _).alloc (Nat.le_refl _) _)
      have HB12 := hid (bel_then HB11.out HB11.out.size hba)
      obtain ⟨D, hD⟩ : ∃ D, l.getLast?.isSome = D := ⟨_, rfl⟩
      rw [hD]
      have HDD := hid hD
      clear hx12 hJ12 hb12 hba HLA h12at hD
      obtain ⟨tn, ts, tt, tl, tp, tc, tq⟩ := x12
      simp only [encVx, Vx.sl] at HV12 HB12 HX12A ⊢
      go_upto_region 12 with fail
      try rw [hA12]
      rcases Nat.eq_zero_or_pos o.length with h0 | h0
      · have hl0 := HL0.out h0
        have hD0 : D = false := by rw [← HDD.out, hl0]; rfl
        subst hD0
        have h00 : (o.length : Int) = 0 := by omega
        clear hl0 HL0 HL1 HX12 HX12A HV12 HDD hA12 HXF HMAY HT3 HOL HC3 hof hcm hcap HP h0
        refine wp_region_held_drew (S := fun _ => True) (by kernel_rfl) trivial (fun hHeld => ?_)
        refine take_val (i := 0) (.bool false) rfl (by kernel_rfl) (by kernel_rfl) (by kernel_rfl) (fun _ _ _ h => h) (by rfl) (fun w hSw => by go_simp) hHeld ?_
        simp only [Act.put, List.setIfInBounds_toArray, List.set_cons_zero, List.set_cons_succ]
        refine take_val (i := 1) (.slice pu o.length cu) rfl (by kernel_rfl) (by kernel_rfl) (by kernel_rfl) (fun _ _ _ h => h) (by rfl) (fun w hSw => by go_simp) hHeld ?_
        simp only [Act.put, List.setIfInBounds_toArray, List.set_cons_zero, List.set_cons_succ]
        refine take_val (i := 2) (.int .i64 0) rfl (by kernel_rfl) (by kernel_rfl) (by kernel_rfl) (fun _ _ _ h => h) (by rfl) (fun w hSw => by go_simp) hHeld ?_
        simp only [Act.put, List.setIfInBounds_toArray, List.set_cons_zero, List.set_cons_succ]
        refine take_val (i := 3) (.bool false) rfl (by kernel_rfl) (by kernel_rfl) (by kernel_rfl) (fun _ _ _ h => h) (by rfl) (fun w hSw => by go_simp) hHeld ?_
        simp only [Act.put, List.setIfInBounds_toArray, List.set_cons_zero, List.set_cons_succ]
        refine take_val (i := 4) (.bool true) rfl (by kernel_rfl) (by kernel_rfl) (by kernel_rfl) (fun _ _ _ h => h) (by rfl) (fun w hSw => by go_simp) hHeld ?_
        simp only [Act.put, List.setIfInBounds_toArray, List.set_cons_zero, List.set_cons_succ]
        refine take_val (i := 5) (.bool true) rfl (by kernel_rfl) (by kernel_rfl) (by kernel_rfl) (fun _ _ _ h => h) (by rfl) (fun w hSw => by go_simp) hHeld ?_
        simp only [Act.put, List.setIfInBounds_toArray, List.set_cons_zero, List.set_cons_succ]
        refine take_val (i := 6) (.bool false) rfl (by kernel_rfl) (by kernel_rfl) (by kernel_rfl) (fun _ _ _ h => h) (by rfl) (fun w hSw => by go_simp) hHeld ?_
        simp only [Act.put, List.setIfInBounds_toArray, List.set_cons_zero, List.set_cons_succ]
        refine take_val (i := 7) (.bool true) rfl (by kernel_rfl) (by kernel_rfl) (by kernel_rfl) (fun _ _ _ h => h) (by rfl) (fun w hSw => by go_simp) hHeld ?_
        simp only [Act.put, List.setIfInBounds_toArray, List.set_cons_zero, List.set_cons_succ]
        refine take_val (i := 8) (.bool true) rfl (by kernel_rfl) (by kernel_rfl) (by kernel_rfl) (fun _ _ _ h => h) (by rfl) (fun w hSw => by go_simp) hHeld ?_
        simp only [Act.put, List.setIfInBounds_toArray, List.set_cons_zero, List.set_cons_succ]
        refine take_not (i := 9) rfl (by kernel_rfl) (by kernel_rfl) (by kernel_rfl) (fun _ _ _ h => h) (by rfl) hHeld ?_
        simp only [Act.put, List.setIfInBounds_toArray, List.set_cons_zero, List.set_cons_succ]
        refine take_not (i := 10) rfl (by kernel_rfl) (by kernel_rfl) (by kernel_rfl) (fun _ _ _ h => h) (by rfl) hHeld ?_
        simp only [Act.put, List.setIfInBounds_toArray, List.set_cons_zero, List.set_cons_succ]
        refine take_not (i := 11) rfl (by kernel_rfl) (by kernel_rfl) (by kernel_rfl) (fun _ _ _ h => h) (by rfl) hHeld ?_
        simp only [Act.put, List.setIfInBounds_toArray, List.set_cons_zero, List.set_cons_succ]
        refine take_not (i := 12) rfl (by kernel_rfl) (by kernel_rfl) (by kernel_rfl) (fun _ _ _ h => h) (by rfl) hHeld ?_
        simp only [Act.put, List.setIfInBounds_toArray, List.set_cons_zero, List.set_cons_succ]
        refine take_not (i := 13) rfl (by kernel_rfl) (by kernel_rfl) (by kernel_rfl) (fun _ _ _ h => h) (by rfl) hHeld ?_
        simp only [Act.put, List.setIfInBounds_toArray, List.set_cons_zero, List.set_cons_succ]
        refine take_not (i := 14) rfl (by kernel_rfl) (by kernel_rfl) (by kernel_rfl) (fun _ _ _ h => h) (by rfl) hHeld ?_
        simp only [Act.put, List.setIfInBounds_toArray, List.set_cons_zero, List.set_cons_succ]
        refine take_not (i := 15) rfl (by kernel_rfl) (by kernel_rfl) (by kernel_rfl) (fun _ _ _ h => h) (by rfl) hHeld ?_
        simp only [Act.put, List.setIfInBounds_toArray, List.set_cons_zero, List.set_cons_succ]
        refine take_not (i := 16) rfl (by kernel_rfl) (by kernel_rfl) (by kernel_rfl) (fun _ _ _ h => h) (by rfl) hHeld ?_
        simp only [Act.put, List.setIfInBounds_toArray, List.set_cons_zero, List.set_cons_succ]
        refine take_val (i := 17) (.bool true) rfl (by kernel_rfl) (by kernel_rfl) (by kernel_rfl) (fun _ _ _ h => h) (by rfl) (fun w hSw => by go_simp) hHeld ?_
        simp only [Act.put, List.setIfInBounds_toArray, List.set_cons_zero, List.set_cons_succ]
        refine take_val (i := 18) (.bool true) rfl (by kernel_rfl) (by kernel_rfl) (by kernel_rfl) (fun _ _ _ h => h) (by rfl) (fun w hSw => by go_simp) hHeld ?_
        simp only [Act.put, List.setIfInBounds_toArray, List.set_cons_zero, List.set_cons_succ]
        refine take_val (i := 19) (.bool true) rfl (by kernel_rfl) (by kernel_rfl) (by kernel_rfl) (fun _ _ _ h => h) (by rfl) (fun w hSw => by go_simp) hHeld ?_
        simp only [Act.put, List.setIfInBounds_toArray, List.set_cons_zero, List.set_cons_succ]
        refine wpAnyH_done (by kernel_rfl) ?_ _
        have HBE := hid (bel_then HB3.out HB3.out.size HB12.out.drew)
        go_wp2_with fail
        go_ret
        exact ⟨rfl, HBE.out⟩
      · obtain ⟨m, hm, hmz, hwm, hwm', hwmm, hwmm', m0, ml, hpos, hpos'⟩ := look_m hof h0
        obtain ⟨hml, hlast⟩ := HL1.out m hm
        have hD0 : D = true := by rw [← HDD.out, hlast]; rfl
        subst hD0
        rw [hlast] at HX12
        have HX12V : Hid ((⟨tn, ts, tt, tl, tp, tc, tq⟩ : Vx).ver = (o[m]).ver) := HX12.out
        obtain ⟨b, hpu⟩ := HP.out h0
        have HPU := hid hpu
        have HV : Hid (∀ W, Below (w12.alloc (.cells #[.int .i64 tn, .int .u64 ts, .int .i64 tt, .bool tl, .slice tp tq.length tc] 41)).heap.size (w12.alloc (.cells #[.int .i64 tn, .int .u64 ts, .int .i64 tt, .bool tl, .slice tp tq.length tc] 41)) W → (CellsV W A12 0 ⟨tn, ts, tt, tl, tp, tc, tq⟩ ∧ CellsV W b (m * 5) o[m]) ∧ Below w3.heap.size w3 W ∧ Calls Try.prog 18 #[.agg #[.int .i64 tn, .int .u64 ts, .int .i64 tt, .bool tl, .slice tp tq.length tc], .agg (encVx o[m]).toArray] W fun e w' => e = .returned (.bool true) ∧ Below W.heap.size W w') := fun W hW => by
          have hW' := bel_then HB12.out HB12.out.size hW
          have hT := HT3.out.on hW'
          have h2 := kv_at (own_atV (by have := hT.own; rw [hpu] at this; exact this) h0) m hml
          rw [Nat.zero_add] at h2
          have h4 : FitX tq := vans_fit (x := ⟨tn, ts, tt, tl, tp, tc, tq⟩) (o := some (o[m]).ver) HX12.out fun v hv => by
            cases hv
            exact HMAY.out _ (by rw [told_at HT3.out m hml]; exact List.getElem_mem _)
          have h5 := sameV_any ⟨tn, ts, tt, tl, tp, tc, tq⟩ o[m] W (HX12A.out.kept hW) (hT.each _ (List.getElem_mem hml)).1.is h4 (HXF.out m hml)
          rw [decide_eq_true HX12V.out] at h5
          exact ⟨⟨(HV12.out.on hW).cells, h2⟩, hW', h5⟩
        obtain ⟨w5, hw5⟩ : ∃ w5, w12.alloc (.cells #[.int .i64 tn, .int .u64 ts, .int .i64 tt, .bool tl, .slice tp tq.length tc] 41) = w5 := ⟨_, rfl⟩
        rw [hw5] at HV ⊢
        clear hpu hlast hm h0 HX12 HX12V HX12A HV12 HB12 hA12 HDD HL0 HL1 HXF HMAY HT3 HOL HC3 hof hcm hcap HP hw5
        generalize o[m] = xm at *
        obtain ⟨zn, zs, zt, zl, zp, zc, zo⟩ := xm
        simp only [CellsV, encVx, Vx.sl, Nat.zero_add] at HV
        have HB5 : Hid (Below w5.heap.size w5 w5.drew) := (Below.refl _ _).drew
        refine wp_region_held_drew (S := fun w' => (w'.cell? ⟨A12, 0, none⟩ = some (.int .i64 tn) ∧ w'.cell? ⟨A12, 1, none⟩ = some (.int .u64 ts) ∧ w'.cell? ⟨A12, 2, none⟩ = some (.int .i64 tt) ∧ w'.cell? ⟨A12, 3, none⟩ = some (.bool tl) ∧ w'.cell? ⟨A12, 4, none⟩ = some (.slice tp tq.length tc)) ∧ w'.cell? ⟨b, m * 5, none⟩ = some (.int .i64 zn) ∧ w'.cell? ⟨b, m * 5 + 1, none⟩ = some (.int .u64 zs) ∧ w'.cell? ⟨b, m * 5 + 2, none⟩ = some (.int .i64 zt) ∧ w'.cell? ⟨b, m * 5 + 3, none⟩ = some (.bool zl) ∧ w'.cell? ⟨b, m * 5 + 4, none⟩ = some (.slice zp zo.length zc)) (by kernel_rfl) (HV.out _ HB5.out).1 (fun hHeld => ?_)
        refine take_val (i := 0) (.bool true) rfl (by kernel_rfl) (by kernel_rfl) (by kernel_rfl) (fun _ _ _ h => h) (by rfl) (fun w hSw => by go_simp) hHeld ?_
        simp only [Act.put, List.setIfInBounds_toArray, List.set_cons_zero, List.set_cons_succ]
        refine take_val (i := 1) (.slice pu o.length cu) rfl (by kernel_rfl) (by kernel_rfl) (by kernel_rfl) (fun _ _ _ h => h) (by rfl) (fun w hSw => by go_simp) hHeld ?_
        simp only [Act.put, List.setIfInBounds_toArray, List.set_cons_zero, List.set_cons_succ]
        refine take_val (i := 2) (.int .i64 o.length) rfl (by kernel_rfl) (by kernel_rfl) (by kernel_rfl) (fun _ _ _ h => h) (by rfl) (fun w hSw => by go_simp) hHeld ?_
        simp only [Act.put, List.setIfInBounds_toArray, List.set_cons_zero, List.set_cons_succ]
        refine take_val (i := 3) (.bool true) rfl (by kernel_rfl) (by kernel_rfl) (by kernel_rfl) (fun _ _ _ h => h) (by rfl) (fun w hSw => by go_simp) hHeld ?_
        simp only [Act.put, List.setIfInBounds_toArray, List.set_cons_zero, List.set_cons_succ]
        refine take_val (i := 4) (.bool true) rfl (by kernel_rfl) (by kernel_rfl) (by kernel_rfl) (fun _ _ _ h => h) (by rfl) (fun w hSw => by go_simp) hHeld ?_
        simp only [Act.put, List.setIfInBounds_toArray, List.set_cons_zero, List.set_cons_succ]
        refine take_val (i := 5) (.bool true) rfl (by kernel_rfl) (by kernel_rfl) (by kernel_rfl) (fun _ _ _ h => h) (by rfl) (fun w hSw => by go_simp) hHeld ?_
        simp only [Act.put, List.setIfInBounds_toArray, List.set_cons_zero, List.set_cons_succ]
        refine take_val (i := 6) (.bool true) rfl (by kernel_rfl) (by kernel_rfl) (by kernel_rfl) (fun _ _ _ h => h) (by rfl) (fun w hSw => by go_simp) hHeld ?_
        simp only [Act.put, List.setIfInBounds_toArray, List.set_cons_zero, List.set_cons_succ]
        refine take_val (i := 7) (.bool false) rfl (by kernel_rfl) (by kernel_rfl) (by kernel_rfl) (fun _ _ _ h => h) (by rfl) (fun w hSw => by go_simp) hHeld ?_
        simp only [Act.put, List.setIfInBounds_toArray, List.set_cons_zero, List.set_cons_succ]
        refine take_val (i := 8) (.bool false) rfl (by kernel_rfl) (by kernel_rfl) (by kernel_rfl) (fun _ _ _ h => h) (by rfl) (fun w hSw => by go_simp) hHeld ?_
        simp only [Act.put, List.setIfInBounds_toArray, List.set_cons_zero, List.set_cons_succ]
        refine take_val (i := 9) (.agg #[.int .i64 tn, .int .u64 ts, .int .i64 tt, .bool tl, .slice tp tq.length tc]) rfl (by kernel_rfl) (by kernel_rfl) (by kernel_rfl) (fun _ _ _ h => h) (by rfl) (fun w hSw => by go_simp) hHeld ?_
        simp only [Act.put, List.setIfInBounds_toArray, List.set_cons_zero, List.set_cons_succ]
        refine take_val (i := 10) (.slice pu o.length cu) rfl (by kernel_rfl) (by kernel_rfl) (by kernel_rfl) (fun _ _ _ h => h) (by rfl) (fun w hSw => by go_simp) hHeld ?_
        simp only [Act.put, List.setIfInBounds_toArray, List.set_cons_zero, List.set_cons_succ]
        refine take_val (i := 11) (.slice pu o.length cu) rfl (by kernel_rfl) (by kernel_rfl) (by kernel_rfl) (fun _ _ _ h => h) (by rfl) (fun w hSw => by go_simp) hHeld ?_
        simp only [Act.put, List.setIfInBounds_toArray, List.set_cons_zero, List.set_cons_succ]
        refine take_val (i := 12) (.int .i64 o.length) rfl (by kernel_rfl) (by kernel_rfl) (by kernel_rfl) (fun _ _ _ h => h) (by rfl) (fun w hSw => by go_simp) hHeld ?_
        simp only [Act.put, List.setIfInBounds_toArray, List.set_cons_zero, List.set_cons_succ]
        refine take_val (i := 13) (.int .i64 m) rfl (by kernel_rfl) (by kernel_rfl) (by kernel_rfl) (fun _ _ _ h => h) (by rfl) (fun w hSw => by go_simp) hHeld ?_
        simp only [Act.put, List.setIfInBounds_toArray, List.set_cons_zero, List.set_cons_succ]
        refine take_val (i := 14) (.pointer (some ⟨b, m * 5, none⟩)) rfl (by kernel_rfl) (by kernel_rfl) (by kernel_rfl) (fun _ _ _ h => h) (by rfl) (fun w hSw => by have hpu := HPU.out; go_simp) hHeld ?_
        simp only [Act.put, List.setIfInBounds_toArray, List.set_cons_zero, List.set_cons_succ]
        refine take_val (i := 15) (.agg #[.int .i64 zn, .int .u64 zs, .int .i64 zt, .bool zl, .slice zp zo.length zc]) rfl (by kernel_rfl) (by kernel_rfl) (by kernel_rfl) (fun _ _ _ h => h) (by rfl) (fun w hSw => by go_simp) hHeld ?_
        simp only [Act.put, List.setIfInBounds_toArray, List.set_cons_zero, List.set_cons_succ]
        refine wpAnyH_ready (rs := [16]) (by kernel_rfl) (by simp) ?_
        refine AllReadyH.cons (at_drop0 rfl) (fun K hK => ?_) AllReadyH.nil
        rw [if_pos (by rfl)]
        go_simp
        refine (HV.out _ HB5.out).2.2.mono ?_
        rintro e w13 ⟨rfl, hb13⟩
        have HB13 := hid (bel_then HB5.out HB5.out.size hb13)
        clear hb13 hHeld
        go_wp2_with fail
        refine hK.out _ _ (HV.out w13 HB13.out).1 (fun hHeld => ?_)
        clear hK K
        try simp only [Act.put, List.setIfInBounds_toArray, List.set_cons_zero, List.set_cons_succ]
        refine take_val (i := 17) (.bool true) rfl (by kernel_rfl) (by kernel_rfl) (by kernel_rfl) (fun _ _ _ h => h) (by rfl) (fun w hSw => by go_simp) hHeld ?_
        simp only [Act.put, List.setIfInBounds_toArray, List.set_cons_zero, List.set_cons_succ]
        refine take_val (i := 18) (.bool true) rfl (by kernel_rfl) (by kernel_rfl) (by kernel_rfl) (fun _ _ _ h => h) (by rfl) (fun w hSw => by go_simp) hHeld ?_
        simp only [Act.put, List.setIfInBounds_toArray, List.set_cons_zero, List.set_cons_succ]
        refine take_val (i := 19) (.bool true) rfl (by kernel_rfl) (by kernel_rfl) (by kernel_rfl) (fun _ _ _ h => h) (by rfl) (fun w hSw => by go_simp) hHeld ?_
        simp only [Act.put, List.setIfInBounds_toArray, List.set_cons_zero, List.set_cons_succ]
        refine wpAnyH_done (by kernel_rfl) ?_ _
        have HBE := hid (bel_then HB3.out HB3.out.size (HV.out w13 HB13.out).2.1)
        clear hHeld
        go_wp2_with fail
        go_ret
        exact ⟨rfl, HBE.out⟩

end Go.Proofs.Ytipbdpjnabeilaa
