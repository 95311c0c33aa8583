/-
  Texts of this claim, one behind the other: Cou Cs2 Cuw Cqw Cov Cox.
-/
import Derived.Test.YtipbdpjnabeilaaPc
import Derived.Test.YtipbdpjnabeilaaPb
import Derived.Deep.RegionHeld3
import Derived.Deep.CutRange
/-
  What rows of stage 6 open a stamp by.
-/
namespace Go.Proofs.Ytipbdpjnabeilaa
open Go.ChangeShapes Go.WideShapes Go.ChangeAt Go.RowKit Go.Lib Go.Deep Go.Joins

theorem open_u64 {H : Type} {enc : TypeId × Value → H} {W : World} {b0 : Nat} {v : Value} {d : DataW H} {p : List MemPlace}
    (hv : Value.okWide Try.prog W .any b0 30 v) (h : DataW.Trod enc Try.prog W 0 (fun _ => true) true 30 v d p) : ∃ t, v = .int .u64 t ∧ 0 ≤ t ∧ t ≤ 18446744073709551615 := by
  obtain ⟨n, rfl, _, _, hw⟩ := open_int Try.underlying30 hv h
  have hws : 0 ≤ n ∧ n ≤ 18446744073709551615 := by
    simp [Lit.wf, IntKind.min, IntKind.max, IntKind.signed, IntKind.bits] at hw
    omega
  exact ⟨n, rfl, hws.1, hws.2⟩

end Go.Proofs.Ytipbdpjnabeilaa

/-
  The program's chain (stage 6): what stays beside a Put and a Prune.
-/
namespace Go.Proofs.Ytipbdpjnabeilaa
open Go.RowKit

theorem st_put2 {n0 g : Nat} {l : List Vr} {W0 W : World} (h : ChSt n0 g l W0) (hb : Below W0.heap.size W0 W) (stamp tick : Int) (live : Bool) (v : Value) (e : List Fx) (val : List Fld) (hv : IsXs W v e) (hf : FitX e) (hval : e.map Fx.fld = val) (h0 : 0 ≤ stamp) (htop : (lastV l).num < 2400000000000) :
    Calls Try.prog 24 #[.pointer (some ⟨g, 0, none⟩), .int .u64 stamp, .int .i64 tick, .bool live, v] W fun r w' =>
      r = .returned (.tuple #[.int .i64 (putN l stamp live val), .int .i64 (putC l stamp live val)]) ∧ ChSt n0 g (putL l stamp tick live val) w' ∧ Fr (fun k => n0 ≤ k ∧ k < W0.heap.size) W w' := by
  obtain ⟨d, vs, h1, rfl⟩ := h
  refine (put_any (h1.on hb) stamp tick live v e val hv hf hval h0 htop).mono ?_
  rintro r w' ⟨h2, d', vs', h3, h4, _, h5⟩
  exact ⟨h2, ⟨d', vs', h3, h4⟩, h5.mono fun k hk => h1.blk k hk⟩

theorem st_prune2 {n0 g : Nat} {l : List Vr} {W0 W : World} (h : ChSt n0 g l W0) (hb : Below W0.heap.size W0 W) (f : Int) :
    Calls Try.prog 17 #[.pointer (some ⟨g, 0, none⟩), .int .u64 f] W fun r w' => r = .returned (.int .i64 (pruneN l f : Nat)) ∧ ChSt n0 g (pruneV l f) w' ∧ Fr (fun k => n0 ≤ k ∧ k < W0.heap.size) W w' := by
  obtain ⟨d, vs, h1, rfl⟩ := h
  refine (prune_any (h1.on hb) f).mono ?_
  rintro r w' ⟨h2, d', vs', h3, h4, _, h5⟩
  exact ⟨h2, ⟨d', vs', h3, h4⟩, h5.mono fun k hk => h1.blk k hk⟩

theorem Told.fr {P : Nat → Prop} {N : Nat} {u : Value} {o : List Vx} {l : List Vr} {W W2 : World} (h : Told N u o l W) (f : Fr P W W2) (hP : ∀ k, P k → k < N) : Told N u o l W2 := by
  refine ⟨f.row (show W.ownsRow N 41 5 u o.length (KV.cells o) from h.own) fun k hk hp => ?_, fun x hx => ownJ_fr (h.each x hx) f fun k hk hp => ?_, h.apart, h.ver⟩
  · have h1 := (World.ownsRow.lt (show W.ownsRow N 41 5 u o.length (KV.cells o) from h.own) k hk).1
    have h2 := hP k hp
    omega
  · have h1 := (ownJ_blk (h.each x hx) k hk).1
    have h2 := hP k hp
    omega

theorem VerAt.fr {P : Nat → Prop} {N : Nat} {x : Vx} {W W2 : World} (h : VerAt W N x) (f : Fr P W W2) (hP : ¬ P N) : VerAt W2 N x := (f.block N h.lt hP).trans h

/-- The first ones of a list. -/
theorem take_is {n0 : Nat} {w : World} {p : Option Addr} {cap : Nat} {d : List Vx} (h : KV.Own n0 w (.slice p d.length cap) d) (k : Nat) (hk : k ≤ d.length) : KV.Is w (.slice p k cap) (d.take k) := by
  refine ⟨p, cap, by rw [List.length_take, Nat.min_eq_left hk], ?_⟩
  obtain ⟨p', c', hsl, hI⟩ := Kind.own_is h
  injection hsl with e1 _ _
  subst e1
  rcases hI with hI | ⟨b, off, rfl, hat⟩
  · left; rw [hI]; simp
  · refine Or.inr ⟨b, off, rfl, fun i hi j u hu => ?_⟩
    have hi' : i < d.length := by rw [List.length_take] at hi; omega
    rw [List.getElem_take] at hu
    exact hat i hi' j u hu

theorem put_same {l : List Vr} {stamp tick : Int} {live : Bool} {val : List Fld} (h : putC l stamp live val ≠ 0) : putL l stamp tick live val = l ∧ putN l stamp live val = 0 := by
  unfold putL putN
  rw [if_neg h, if_neg h]
  exact ⟨rfl, rfl⟩

theorem put_new {l : List Vr} {stamp tick : Int} {live : Bool} {val : List Fld} (h : putC l stamp live val = 0) : putL l stamp tick live val = l ++ [⟨putN l stamp live val, stamp, tick, live, if live then val else []⟩] := by
  unfold putL putN
  rw [if_pos h, if_pos h]
  rfl

theorem put_above {l : List Vr} {stamp : Int} {live : Bool} {val : List Fld} (h : putC l stamp live val = 0) : (lastV l).stamp < stamp := by
  unfold putC putCode at h
  split at h
  · simp at h
  · next hs => exact Int.not_le.1 fun e => hs (Or.inr e)

end Go.Proofs.Ytipbdpjnabeilaa

/-
  The walk of ChainRefuses (stage 6).
-/
namespace Go.Proofs.Ytipbdpjnabeilaa
open Go.RowKit

/-- An operation in a block of its own. -/
def OpBox (w : World) (N : Nat) (x : Ox) : Prop := w.heap[N]? = some (.cells (encO x).toArray 33 (0, 0))

theorem OpBox.cells {w : World} {N : Nat} {x : Ox} (h : OpBox w N x) : w.cell? ⟨N, 1, none⟩ = some (.int .u64 x.stamp) ∧ w.cell? ⟨N, 2, none⟩ = some (.int .i64 x.tick) ∧ w.cell? ⟨N, 3, none⟩ = some (.bool x.live) ∧ w.cell? ⟨N, 4, none⟩ = some x.sl ∧ w.cell? ⟨N, 0, none⟩ = some (.int .i64 x.kind) ∧ w.cell? ⟨N, 5, none⟩ = some (.int .i64 x.n) := by
  unfold OpBox at h
  refine ⟨?_, ?_, ?_, ?_, ?_, ?_⟩ <;> (rw [Lib.cell_of_heap h]; rfl)

theorem OpBox.lt {w : World} {N : Nat} {x : Ox} (h : OpBox w N x) : N < w.heap.size := by
  unfold OpBox at h
  rcases Nat.lt_or_ge N w.heap.size with h' | h'
  · exact h'
  · rw [Array.getElem?_eq_none h'] at h; cases h

theorem OpBox.on {w W : World} {N : Nat} {x : Ox} (h : OpBox w N x) (hb : Below w.heap.size w W) : OpBox W N x := (hb.block N h.lt).trans h
theorem OpBox.fr {P : Nat → Prop} {N : Nat} {x : Ox} {W W2 : World} (h : OpBox W N x) (f : Fr P W W2) (hP : ¬ P N) : OpBox W2 N x := (f.block N h.lt hP).trans h

theorem sameVs_told {N M : Nat} {u v : Value} {o q : List Vx} {l m : List Vr} {W : World} (h : Told N u o l W) (k : Told M v q m W) (hl : ∀ v ∈ l, mayB v.val = true) (hm : ∀ v ∈ m, mayB v.val = true) (hf : l.length ≤ 2400000000000) :
    Calls Try.prog 12 #[u, v] W fun r w' => r = .returned (.bool (decide (l = m))) ∧ Below W.heap.size W w' := by
  have := sameVs_any u v o q W (Kind.own_is h.own) (Kind.own_is k.own) (h.fits hl) (k.fits hm) (by rw [h.len]; unfold maxLen; omega)
  rw [h.ver, k.ver] at this
  exact this

set_option maxHeartbeats 1500000 in
set_option maxRecDepth 100000 in
theorem refuses_any (v : Value) (ops : List Ox) (x : Ox) (w : World) (hv : KO.Is w v ops) (hx : ∀ x ∈ ops, OpAt w x) (hl : ops.length ≤ 2199023255552) (hxo : OpAt w x) :
    Calls Try.prog 8 #[v, .agg (encO x).toArray] w fun e w' => e = .returned (.bool true) ∧ Below w.heap.size w w' := by
  have hb0 : Below w.heap.size w (w.alloc (.cells (encO x).toArray 33)) := (Below.refl _ _).alloc (Nat.le_refl _) _
  have HF := hid (fixed_any (w.alloc (.cells (encO x).toArray 33)))
  have HLD : Hid (∀ W, Below w.heap.size w W → Calls Try.prog 15 #[v] W fun e w' => ∃ g, e = .returned (.pointer (some ⟨g, 0, none⟩)) ∧ ChSt W.heap.size g (laidV ops) w' ∧ (lastV (laidV ops)).num ≤ 2199023255552 ∧ Below W.heap.size W w') := fun W hW => st_laid v ops W (Kind.is_kept hv hW) (fun x hx' => (hx x hx').on hW) hl
  obtain ⟨p, cap, rfl, _⟩ := hv
  obtain ⟨N, hN⟩ : ∃ N, w.heap.size = N := ⟨_, rfl⟩
  have HO0 : Hid (OpBox (w.alloc (.cells (encO x).toArray 33)) N x) := by rw [← hN]; exact heap_alloc_new w _
  have HB0 := hid hb0
  have HXO := hid hxo
  obtain ⟨W0, hW0⟩ : ∃ W0, w.alloc (.cells (encO x).toArray 33) = W0 := ⟨_, rfl⟩
  have hs0 : W0.heap.size = N + 1 := by rw [← hW0, ← hN]; simp
  rw [hW0] at HF HO0 HB0
  have HPUT : Hid (∀ (n0 g : Nat) (l : List Vr) (V W : World), ChSt n0 g l V → Below V.heap.size V W → Below w.heap.size w W → (lastV l).num ≤ 2199023255552 → Calls Try.prog 24 #[.pointer (some ⟨g, 0, none⟩), .int .u64 x.stamp, .int .i64 x.tick, .bool x.live, x.sl] W fun r w' => r = .returned (.tuple #[.int .i64 (putN l x.stamp x.live x.val), .int .i64 (putC l x.stamp x.live x.val)]) ∧ ChSt n0 g (putL l x.stamp x.tick x.live x.val) w' ∧ Fr (fun k => n0 ≤ k ∧ k < V.heap.size) W w') := fun n0 g l V W h1 h2 h3 h4 => st_put2 h1 h2 x.stamp x.tick x.live x.sl x.o x.val (hxo.is.kept h3) hxo.fit rfl hxo.lo (by omega)
  clear hx hl hxo hb0
  obtain ⟨XV, hXV⟩ : ∃ XV, x.val = XV := ⟨_, rfl⟩
  rw [hXV] at HPUT
  clear hXV HXO
  obtain ⟨xk, xs, xt, xl, xp, xc, xo, xn⟩ := x
  simp only [encO, Ox.sl] at hW0 HPUT ⊢
  go_enter Try.func8, Try.ntmps8
  go_wp2_with fail
  try rw [hW0]
  try rw [hN]
  clear hW0
  refine HF.out.mono ?_
  rintro e w1 ⟨rfl, hb1⟩
  have HB1 := hid (bel_then HB0.out HB0.out.size hb1)
  have HO1 := hid (HO0.out.on hb1)
  have HL1 := hid (HLD.out w1 HB1.out)
  have hs1 : N + 1 ≤ w1.heap.size := by have := hb1.size; omega
  clear hb1 HF HLD HO0 HB0
  go_wp2_with fail
  refine HL1.out.mono ?_
  rintro e w2 ⟨g, rfl, hC2, hnum, hb2⟩
  generalize laidV ops = l at hC2 hnum
  have HB2 := hid (bel_then HB1.out HB1.out.size hb2)
  have HO2 := hid (HO1.out.on hb2)
  have HC2 := hid hC2
  have HAL := hid (st_all hC2)
  have HNUM := hid hnum
  have hs2 := hb2.size
  clear hC2 hb2 HL1 HB1 HO1 hnum
  go_wp2_with fail
  refine HAL.out.mono ?_
  intro e w3 hp3
  obtain ⟨u, o, rfl, ht3, hb3⟩ := all_told hp3
  have HOL := hid ht3.len
  have hfew := HC2.out.few
  obtain ⟨pu, cu, rfl⟩ := Kind.own_shape ht3.own
  have HT3 := hid ht3
  have HO3 := hid (HO2.out.on hb3)
  have HB3 := hid hb3
  have HLA := hid (st_last (HC2.out.on hb3))
  have hs3 := hb3.size
  clear hp3 ht3 hb3 HAL HO2
  go_wp2_with fail
  refine HLA.out.mono ?_
  rintro e w4 ⟨x4, rfl, hx4, _, hb4⟩
  have hba : Below w3.heap.size w3 (w4.alloc (.cells (encVx x4).toArray 41)) := hb4.alloc hb4.size _
  have HV4 : Hid (VerAt (w4.alloc (.cells (encVx x4).toArray 41)) w4.heap.size x4) := heap_alloc_new w4 _
  have hs4 := hb4.size
  obtain ⟨A4, hA4⟩ : ∃ A4, w4.heap.size = A4 := ⟨_, rfl⟩
  rw [hA4] at HV4 hs4
  have HB4 := hid (bel_then HB3.out HB3.out.size hba)
  have HT4 := hid (HT3.out.on hba)
  have HO4 := hid (HO3.out.on hba)
  have HBW4 := hid (bel_then HB2.out HB2.out.size HB4.out)
  have HPC := hid (HPUT.out _ g l w2 _ HC2.out HB4.out HBW4.out HNUM.out)
  have H4S : Hid (x4.stamp = (lastV l).stamp) := by
    show x4.ver.stamp = (lastV l).stamp
    rw [hx4]; rfl
  clear hx4 hb4 hba HLA HT3 HO3 HB3 HPUT
  obtain ⟨xn4, xs4, xt4, xl4, xp4, xc4, xo4⟩ := x4
  simp only [encVx, Vx.sl] at HV4 HB4 HT4 HO4 HBW4 HPC H4S ⊢
  obtain ⟨m1, m2, m3, m4, _, _⟩ := HO4.out.cells
  simp only [Ox.sl] at m1 m2 m3 m4
  go_wp2_with fail
  try rw [hA4]
  clear m1 m2 m3 m4
  refine HPC.out.mono ?_
  rintro e w5 ⟨rfl, hC5, hf5⟩
  have hT5 := HT4.out.fr hf5 fun k hk => hk.2
  have HT5 := hid hT5
  have hV5 := HV4.out.fr hf5 (by omega)
  have hO5 := HO4.out.fr hf5 (by omega)
  have hb5 : Below w.heap.size w w5 := HBW4.out.trans (hf5.below HBW4.out.size fun k hk => by omega)
  have HB5 := hid hb5
  have HC5 := hid hC5
  have HV5 := hid hV5
  have HO5 := hid hO5
  have HMAY := hid HC2.out.may
  clear hb5 hT5 hC5 hf5 hV5 hO5 HPC HT4 HV4 HO4 HBW4 HB4 HC2 HB2
  by_cases hcode : putC l xs xl XV = 0
  · rw [put_new hcode] at HC5
    have HAB := hid (put_above hcode)
    have hpl : 0 ≤ putN l xs xl XV ∨ True := Or.inr trivial
    rw [hcode]
    obtain ⟨PN, hPN⟩ : ∃ PN, putN l xs xl XV = PN := ⟨_, rfl⟩
    rw [hPN] at HC5 ⊢
    clear hcode hPN hpl
    have HLA := hid (st_last HC5.out)
    rw [List.getLast?_concat] at HLA
    go_wp2_with fail
    refine HLA.out.mono ?_
    rintro e w6 ⟨x6, rfl, hx6, _, hb6⟩
    have hba : Below w5.heap.size w5 (w6.alloc (.cells (encVx x6).toArray 41)) := hb6.alloc hb6.size _
    have HV6 : Hid (VerAt (w6.alloc (.cells (encVx x6).toArray 41)) w6.heap.size x6) := heap_alloc_new w6 _
    obtain ⟨A6, hA6⟩ : ∃ A6, w6.heap.size = A6 := ⟨_, rfl⟩
    rw [hA6] at HV6
    have HB6 := hid (bel_then HB5.out HB5.out.size hba)
    have HT6 := hid (HT5.out.on hba)
    have HC6 := hid (HC5.out.on hba)
    have hO6 := HO5.out.on hba
    have hV46 := HV5.out.on hba
    have HAL := hid (st_all HC6.out)
    obtain ⟨xn6, xs6, xt6, xl6, xp6, xc6, xo6⟩ := x6
    obtain ⟨rfl, rfl, rfl, rfl, -⟩ := ver_parts (show Vx.ver _ = ⟨_, _, _, _, _⟩ from hx6)
    obtain ⟨m1, m2, m3, m4, _, _⟩ := hO6.cells
    have n1 := hV46.cells.2.1
    simp only [Ox.sl, encVx, Vx.sl, Nat.zero_add] at m1 m2 m3 m4 n1 HV6 HB6 HT6 HC6 HAL ⊢
    have hab := HAB.out
    rw [← H4S.out] at hab
    have hab' : xs4 < xs6 := hab
    clear hx6 hb6 hba HLA HT5 HO5 HB5 HC5 HV5 hO6 hV46 hab HAB H4S
    go_wp2_with fail
    try rw [hA6]
    clear hA6 m1 m2 m3 m4 n1
    refine HAL.out.mono ?_
    intro e w7 hp7
    obtain ⟨u7, o7, rfl, ht7, hb7⟩ := all_told hp7
    have hol7 := ht7.len
    rw [List.length_append, List.length_singleton] at hol7
    have HT7 := hid (HT6.out.on hb7)
    have HC7 := hid (HC6.out.on hb7)
    have HB7 := hid (bel_then HB6.out HB6.out.size hb7)
    obtain ⟨p7, c7, rfl⟩ := Kind.own_shape ht7.own
    have hcap := (own_caps ht7.own).1
    have hol := HOL.out
    have hcm : c7 ≤ maxLen := by
      rcases ht7.own.2 with ⟨h1, _⟩ | ⟨_, c, _, h1, _, _, _, h2, _⟩
      · injection h1 with _ _ e; rw [e]; exact Nat.zero_le _
      · injection h1 with _ _ e; rw [e]; exact h2
    unfold maxLen at hcm
    have HSV : Hid (Calls Try.prog 12 #[.slice p7 o.length c7, .slice pu o.length cu] w7 fun r w' => r = .returned (.bool true) ∧ Below w7.heap.size w7 w') := by
      have hmay7 := HC7.out.may
      have h1 := take_is ht7.own o.length (by omega)
      have h2 := sameVs_any _ _ (o7.take o.length) o w7 h1 (Kind.own_is HT7.out.own) (fun x hx => ht7.fits hmay7 x (List.mem_of_mem_take hx)) (HT7.out.fits HMAY.out) (by rw [List.length_take]; unfold maxLen; omega)
      rw [List.map_take, ht7.ver, HT7.out.ver, hol, List.take_left, decide_eq_true rfl] at h2
      rw [hol]
      exact h2
    have hlen7 : o7.length = o.length + 1 := by omega
    have i1 : (o.length : Int) ≤ (c7 : Int) := by omega
    have i2 : (0 : Int) ≤ (o.length : Int) := by omega
    have HLE := hid (st_len HC7.out)
    rw [List.length_append, List.length_singleton, ← hol] at HLE
    have hof : o.length ≤ 2400000000000 := by omega
    have HE7 := hid hlen7
    clear hp7 ht7 hb7 hol7 HAL HT6 HC6 HB6 hcap hol hfew hlen7
    go_wp2_with fail
    refine HSV.out.mono ?_
    rintro e w8 ⟨rfl, hb8⟩
    have HLE8 := hid (st_len (HC7.out.on hb8))
    rw [List.length_append, List.length_singleton, ← HOL.out] at HLE8
    have HB8 := hid (bel_then HB7.out HB7.out.size hb8)
    clear hb8 HSV HLE HB7
    go_wp2_with fail
    refine HLE8.out.mono ?_
    rintro e w9 ⟨rfl, rfl⟩
    clear HLE8
    go_wp2_with fail
    go_ret
    first
    | exact ⟨rfl, HB8.out⟩
    | exact ⟨by simp, HB8.out⟩
  · obtain ⟨hsame, hn0⟩ := put_same (tick := xt) hcode
    rw [hsame] at HC5
    rw [hn0]
    obtain ⟨PC, hPC⟩ : ∃ PC, putC l xs xl XV = PC := ⟨_, rfl⟩
    rw [hPC] at hcode ⊢
    have hne : (PC != 0) = true := by simpa using hcode
    have HAL := hid (st_all HC5.out)
    clear hsame hn0 hPC hcode
    go_wp2_with fail
    refine HAL.out.mono ?_
    intro e w6 hp6
    obtain ⟨u6, o6, rfl, ht6, hb6⟩ := all_told hp6
    have HSV := hid (sameVs_told ht6 (HT5.out.on hb6) HMAY.out HMAY.out hfew)
    rw [decide_eq_true rfl] at HSV
    have HB6 := hid (bel_then HB5.out HB5.out.size hb6)
    obtain ⟨p6, c6, rfl⟩ := Kind.own_shape ht6.own
    clear hp6 ht6 hb6 HAL
    go_wp2_with fail
    refine HSV.out.mono ?_
    rintro e w7 ⟨rfl, hb7⟩
    have HB7 := hid (bel_then HB6.out HB6.out.size hb7)
    clear hb7 HSV HB6
    go_wp2_with fail
    go_ret
    exact ⟨rfl, HB7.out⟩

end Go.Proofs.Ytipbdpjnabeilaa

/-
  The walk of ChainPrunes (stage 6).
-/
namespace Go.Proofs.Ytipbdpjnabeilaa
open Go.RowKit

/-- Stamps in memory. -/
def encU (x : Int) : List Value := [.int .u64 x]
def KU : Kind Int := ⟨30, 1, encU, fun _ => rfl, by decide, fun x u hu => by simp [encU] at hu; subst hu; rfl⟩
theorem Try.infoU : (Try.prog.info? 30).map (fun i => (i.zero, i.size, i.bytes)) = some (some (.int .u64 0), 1, 8) := by kernel_rfl

theorem ku_at {w : World} {b off : Nat} {d : List Int} (h : KU.At w b off d) (i : Nat) (hi : i < d.length) : w.cell? ⟨b, off + i, none⟩ = some (.int .u64 d[i]) := by
  have := h i hi 0 _ rfl
  simpa [KU] using this

/-- A list that was told, from k on. -/
theorem sameVs_tail {N M : Nat} {u : Value} {p : Option Addr} {cap : Nat} {o q : List Vx} {l m : List Vr} {W : World} (h : Told N u o l W) (k : Told M (.slice p q.length cap) q m W) (c : Nat) (hc : c ≤ q.length) (hl : ∀ v ∈ l, mayB v.val = true) (hm : ∀ v ∈ m, mayB v.val = true) (hf : l.length ≤ 2400000000000) :
    Calls Try.prog 12 #[u, tailV p q.length cap c] W fun r w' => r = .returned (.bool (decide (l = m.drop c))) ∧ Below W.heap.size W w' := by
  have := sameVs_any u (tailV p q.length cap c) o (q.drop c) W (Kind.own_is h.own) (tail_is k.own c hc) (h.fits hl) (fun x hx => k.fits hm x (List.mem_of_mem_drop hx)) (by rw [h.len]; unfold maxLen; omega)
  rw [h.ver, List.map_drop, k.ver] at this
  exact this

/-- A list told of a, and one told of b, that are the same. -/
theorem sameVs_two {w : World} {l : List Vr} {N M : Nat} {u v : Value} {o q : List Vx} (h : Told N u o l w) (k : Told M v q l w) (hl : ∀ v ∈ l, mayB v.val = true) (hf : l.length ≤ 2400000000000) :
    Calls Try.prog 12 #[u, v] w fun r w' => r = .returned (.bool true) ∧ Below w.heap.size w w' := by
  have := sameVs_told h k hl hl hf
  rw [decide_eq_true rfl] at this
  exact this

theorem sameV_two {o : Option Vr} {x y : Vx} {W : World} (hx : x.ver = o.getD zeroV) (hy : y.ver = o.getD zeroV) (ha : x.at W) (hb : y.at W) (hm : ∀ v, o = some v → mayB v.val = true) :
    Calls Try.prog 18 #[.agg (encVx x).toArray, .agg (encVx y).toArray] W fun r w' => r = .returned (.bool true) ∧ Below W.heap.size W w' := by
  have := sameV_any x y W ha hb (vans_fit hx hm) (vans_fit hy hm)
  rw [decide_eq_true (hx.trans hy.symm)] at this
  exact this

/-- A chain, and where its blocks lie. -/
def ChQ (P : Nat → Prop) (n0 g : Nat) (l : List Vr) (W : World) : Prop := ∃ d vs, PrgC n0 W g d vs ∧ d.map Vx.ver = l ∧ ∀ k, BlkC g d vs k → P k

theorem ChQ.st {P : Nat → Prop} {n0 g : Nat} {l : List Vr} {W : World} (h : ChQ P n0 g l W) : ChSt n0 g l W := by
  obtain ⟨d, vs, h1, h2, _⟩ := h
  exact ⟨d, vs, h1, h2⟩
theorem ChQ.lt {P : Nat → Prop} {n0 g : Nat} {l : List Vr} {W : World} (h : ChQ P n0 g l W) : ChQ (fun k => P k ∧ k < W.heap.size) n0 g l W := by
  obtain ⟨d, vs, h1, h2, h3⟩ := h
  exact ⟨d, vs, h1, h2, fun k hk => ⟨h3 k hk, (h1.blk k hk).2⟩⟩
theorem ChSt.q {n0 g : Nat} {l : List Vr} {W : World} (h : ChSt n0 g l W) : ChQ (fun k => n0 ≤ k ∧ k < W.heap.size) n0 g l W := by
  obtain ⟨d, vs, h1, h2⟩ := h
  exact ⟨d, vs, h1, h2, fun k hk => h1.blk k hk⟩

theorem st_prune3 {P : Nat → Prop} {n0 g : Nat} {l : List Vr} {W0 W : World} (h : ChQ P n0 g l W0) (hb : Below W0.heap.size W0 W) (f : Int) :
    Calls Try.prog 17 #[.pointer (some ⟨g, 0, none⟩), .int .u64 f] W fun r w' => r = .returned (.int .i64 (pruneN l f : Nat)) ∧ ChQ (fun k => P k ∨ W.heap.size ≤ k) n0 g (pruneV l f) w' ∧ Fr P W w' := by
  obtain ⟨d, vs, h1, rfl, h2⟩ := h
  refine (prune_any (h1.on hb) f).mono ?_
  rintro r w' ⟨h3, d', vs', h4, h5, h6, h7⟩
  exact ⟨h3, ⟨d', vs', h4, h5, fun k hk => (h6 k hk).imp (h2 k) id⟩, h7.mono fun k hk => h2 k hk⟩

set_option maxHeartbeats 2000000 in
set_option maxRecDepth 100000 in
theorem sameV_grown (x y : Vx) (w : World) (hx : x.at w) (hy : y.at w) (hf : FitX x.o) (hg : FitX y.o) :
    Calls Try.prog 18 #[.agg (encVx x).toArray, .agg (encVx y).toArray] w fun e w' => e = .returned (.bool (decide (x.ver = y.ver))) ∧ Grown w w' := by
  have HSF : Hid (∀ W, Below w.heap.size w W → Calls Try.prog 26 #[x.sl, y.sl] W fun r w' => r = .returned (.bool (decide (x.o.map Fx.fld = y.o.map Fx.fld))) ∧ ∃ n, w' = W.drewN n) := fun W hW => sameF_any x.sl y.sl x.o y.o W (hx.kept hW) (hy.kept hW) hf hg
  have HV := hid (ver_eq (x := x) (y := y))
  obtain ⟨r, hr⟩ : ∃ r, decide (x.ver = y.ver) = r := ⟨_, rfl⟩
  rw [hr]
  have HR := hid hr
  have HGX : Hid (Grown w ((w.alloc (.cells (encVx x).toArray 41)).alloc (.cells (encVx y).toArray 41))) := ((Grown.refl w).alloc _).alloc _
  have HBX : Hid (Below w.heap.size w ((w.alloc (.cells (encVx x).toArray 41)).alloc (.cells (encVx y).toArray 41))) := ((Below.refl _ _).alloc (Nat.le_refl _) _).alloc (by simp) _
  obtain ⟨xn, xs, xt, xl, xp, xc, xo⟩ := x
  obtain ⟨yn, ys, yt, yl, yp, yc, yo⟩ := y
  simp only [encVx, Vx.sl] at HSF HBX HGX HV ⊢
  clear hx hy hf hg hr
  have no : ¬ (xn = yn ∧ xs = ys ∧ xt = yt ∧ xl = yl ∧ xo.map Fx.fld = yo.map Fx.fld) → r = false := fun h => by rw [← HR.out]; exact decide_eq_false fun e => h (HV.out.1 e)
  have NO := hid no
  clear no
  show Calls Try.prog 18 #[.agg #[.int .i64 xn, .int .u64 xs, .int .i64 xt, .bool xl, .slice xp xo.length xc], .agg #[.int .i64 yn, .int .u64 ys, .int .i64 yt, .bool yl, .slice yp yo.length yc]] w _
  by_cases h1 : xn = yn
  · by_cases h2 : xs = ys
    · by_cases h3 : xt = yt
      · by_cases h4 : xl = yl
        · have HEQ : Hid (r = decide (xo.map Fx.fld = yo.map Fx.fld)) := by
            show _ = _
            rw [← HR.out, decide_eq_decide]
            rw [HV.out]
            exact ⟨fun h => h.2.2.2.2, fun h => ⟨h1, h2, h3, h4, h⟩⟩
          subst h1 h2 h3 h4
          have HC := hid (HSF.out _ HBX.out)
          clear NO HV HR HSF
          obtain ⟨Q, hQ⟩ : ∃ Q, decide (xo.map Fx.fld = yo.map Fx.fld) = Q := ⟨_, rfl⟩
          rw [hQ] at HC HEQ
          clear hQ
          cases xl
          all_goals
            go_enter Try.func18, Try.ntmps18
            go_wp2_with fail
            refine HC.out.mono ?_
            rintro e w1 ⟨rfl, n1, rfl⟩
            go_wp2_with fail
            go_ret
            exact ⟨ret_bool HEQ.out.symm, HGX.out.drewN n1⟩
        · have HN := hid (NO.out fun h => h4 h.2.2.2.1)
          subst h1 h2 h3
          have h4' : (xl == yl) = false := by simpa using h4
          clear NO HV HR HSF h4
          go_enter Try.func18, Try.ntmps18
          go_wp2_with fail
          go_ret
          exact ⟨ret_bool HN.out.symm, HGX.out⟩
      · have HN := hid (NO.out fun h => h3 h.2.2.1)
        subst h1 h2
        have h3' : (xt == yt) = false := by simpa using h3
        clear NO HV HR HSF h3
        go_enter Try.func18, Try.ntmps18
        go_wp2_with fail
        go_ret
        exact ⟨ret_bool HN.out.symm, HGX.out⟩
    · have HN := hid (NO.out fun h => h2 h.2.1)
      subst h1
      have h2' : (xs == ys) = false := by simpa using h2
      clear NO HV HR HSF h2
      go_enter Try.func18, Try.ntmps18
      go_wp2_with fail
      go_ret
      exact ⟨ret_bool HN.out.symm, HGX.out⟩
  · have HN := hid (NO.out fun h => h1 h.1)
    have h1' : (xn == yn) = false := by simpa using h1
    clear NO HV HR HSF h1
    go_enter Try.func18, Try.ntmps18
    go_wp2_with fail
    go_ret
    exact ⟨ret_bool HN.out.symm, HGX.out⟩

theorem told_at2 {N : Nat} {u : Value} {o : List Vx} {l : List Vr} {W : World} (h : Told N u o l W) (i : Nat) (hi : i < o.length) : (o[i]).ver = l[i]'(by rw [← h.len]; exact hi) := by
  have := h.ver
  subst this
  rw [List.getElem_map]

theorem bool_ne_self (b : Bool) : (b != b) = false := by simp

set_option maxHeartbeats 2000000 in
set_option maxRecDepth 100000 in
theorem prunes_any (v v2 : Value) (ops : List Ox) (f : Int) (ts : List Int) (w : World) (hv : KO.Is w v ops) (hx : ∀ x ∈ ops, OpAt w x) (hl : ops.length ≤ 2199023255552) (hf0 : 0 ≤ f) (hf1 : f ≤ 18446744073709551615) (hts : KU.Is w v2 ts) (htb : ∀ t ∈ ts, 0 ≤ t ∧ t ≤ 18446744073709551615) (htl : ts.length ≤ 17592186044000) :
    Calls Try.prog 4 #[v, .int .u64 f, v2] w fun e w' => e = .returned (.bool true) ∧ Below w.heap.size w w' := by
  obtain ⟨iU, hiU, hu0, hu1, hu2⟩ := info_parts Try.infoU
  have HIU := hid hiU
  have HF := hid (fixed_any w)
  have HLD : Hid (∀ W, Below w.heap.size w W → Calls Try.prog 15 #[v] W fun e w' => ∃ g, e = .returned (.pointer (some ⟨g, 0, none⟩)) ∧ ChSt W.heap.size g (laidV ops) w' ∧ (lastV (laidV ops)).num ≤ 2199023255552 ∧ Below W.heap.size W w') := fun W hW => st_laid v ops W (Kind.is_kept hv hW) (fun x hx' => (hx x hx').on hW) hl
  obtain ⟨p, cap, rfl, _⟩ := hv
  obtain ⟨pt, ct, rfl, htd⟩ := hts
  have HTB := hid htb
  have HTD := hid htd
  clear hx hl htd htb hiU
  generalize laidV ops = l at HLD
  go_enter Try.func4, Try.ntmps4
  go_wp2_with fail
  refine HF.out.mono ?_
  rintro e w1 ⟨rfl, hb1⟩
  have HL1 := hid (HLD.out w1 hb1)
  have HB1 := hid hb1
  clear hb1 HF
  go_wp2_with fail
  refine HL1.out.mono ?_
  rintro e w2 ⟨ga, rfl, hA2, _, hb2⟩
  have HB2 := hid (bel_then HB1.out HB1.out.size hb2)
  have HA2 := hid hA2
  have HL2 := hid (HLD.out w2 HB2.out)
  clear hA2 hb2 HL1 HB1 HLD
  go_wp2_with fail
  refine HL2.out.mono ?_
  rintro e w3 ⟨gb, rfl, hC3, _, hb3⟩
  have HB3 := hid (bel_then HB2.out HB2.out.size hb3)
  have HC3 := hid hC3
  have HA3 := hid (HA2.out.on hb3)
  have HAB3 := hid hb3
  have HAT := hid (st_at HA3.out f)
  clear hC3 hb3 HL2
  go_wp2_with fail
  refine HAT.out.mono ?_
  rintro e w4 ⟨x4, rfl, hx4, hJ4, hb4⟩
  have hba : Below w3.heap.size w3 (w4.alloc (.cells (encVx x4).toArray 41)) := hb4.alloc hb4.size _
  have HV4 : Hid (VerAt (w4.alloc (.cells (encVx x4).toArray 41)) w4.heap.size x4) := heap_alloc_new w4 _
  have hs4 := hb4.size
  obtain ⟨A4, hA4⟩ : ∃ A4, w4.heap.size = A4 := ⟨_, rfl⟩
  rw [hA4] at HV4 hs4
  have HX4 := hid hx4
  have HJ4 := hid (hJ4.on ((Below.refl _ _).alloc (Nat.le_refl _) (.cells (encVx x4).toArray 41)))
  have HB4 := hid hba
  have HAL := hid (st_all (HA3.out.on hba))
  have hS4 : w3.heap.size ≤ (w4.alloc (.cells (encVx x4).toArray 41)).heap.size := hba.size
  clear hx4 hb4 hJ4 hba HAT
  obtain ⟨xn4, xs4, xt4, xl4, xp4, xc4, xo4⟩ := x4
  simp only [encVx, Vx.sl] at HV4 HB4 HAL HJ4 hS4 ⊢
  obtain ⟨there, hthere⟩ : ∃ b, (atV l f).isSome = b := ⟨_, rfl⟩
  have HTH := hid hthere
  rw [hthere]
  clear hthere
  go_wp2_with fail
  try rw [hA4]
  clear hA4
  refine HAL.out.mono ?_
  intro e w5 hp5
  obtain ⟨u5, o5, rfl, ht5, hb5⟩ := all_told hp5
  have HOL5 := hid ht5.len
  obtain ⟨p5, c5, rfl⟩ := Kind.own_shape ht5.own
  have hcu := own_caps ht5.own
  have hcm : c5 ≤ maxLen := by
    rcases ht5.own.2 with ⟨h1, _⟩ | ⟨_, c, _, h1, _, _, _, h2, _⟩
    · injection h1 with _ _ e; rw [e]; exact Nat.zero_le _
    · injection h1 with _ _ e; rw [e]; exact h2
  unfold maxLen at hcm
  have HT5 := hid ht5
  have HB5 := hid (bel_then HB4.out HB4.out.size hb5)
  have HV5 := hid (HV4.out.on hb5)
  have HJ5 := hid (HJ4.out.on hb5)
  have HPR := hid (st_prune3 HC3.out.q HB5.out f)
  have hA5 := HV5.out.lt
  have HJB : Hid (∀ k, BlkX (.slice xp4 xo4.length xc4) xo4 k → w3.heap.size ≤ k ∧ k < w5.heap.size) := fun k hk => ownJ_blk HJ5.out k hk
  clear hp5 ht5 hb5 HAL HV4 HJ4 HB4
  go_wp2_with fail
  refine HPR.out.mono ?_
  rintro e w6 ⟨rfl, hC6, hf6⟩
  have hn2 : w2.heap.size ≤ w5.heap.size := by have h1 := HAB3.out.size; have h2 := HB5.out.size; omega
  have hbn : Below w2.heap.size w5 w6 := hf6.below hn2 fun k hk => hk.1
  have HA6 : Hid (ChSt w1.heap.size ga l w6) := HA2.out.below (Nat.le_refl _) (HAB3.out.trans (HB5.out.mono HAB3.out.size)) hbn
  have HT6 := hid (HT5.out.fr hf6 fun k hk => by have := hk.2; omega)
  have HV6 := hid (HV5.out.fr hf6 (by omega))
  have HJ6 := hid (ownJ_fr HJ5.out hf6 fun k hk h => by have := (ownJ_blk HJ5.out k hk).1; omega)
  have HC6 := hid hC6.st
  have HQ6 := hid hC6.lt
  have hw20 := HB2.out.size
  have h23 := HAB3.out.size
  have HB6 : Hid (Below w.heap.size w w6) := (bel_then HB3.out HB3.out.size HB5.out).trans (hbn.mono HB2.out.size)
  clear hC6 hf6 hbn HPR HA2 HAB3 HB5 HT5 HV5 HJ5 HC3 HA3 HB2 HB3
  have hsz6 := HB6.out.size
  have HRISE := hid HA6.out.ok.rise
  have HMAY := hid HA6.out.may
  have HFEW := hid HA6.out.few
  have HPT : Hid (∀ t, f ≤ t → atV (pruneV l f) t = atV l t ∧ sinceV (pruneV l f) t = sinceV l t) := fun t ht => ⟨prune_at HRISE.out ht, prune_since HRISE.out ht⟩
  obtain ⟨n, hn⟩ : ∃ n, pruneN l f = n := ⟨_, rfl⟩
  have hnl : n ≤ o5.length := by
    have h1 := cutV_le l f
    have h2 := HOL5.out
    unfold pruneN at hn
    omega
  have hof : o5.length ≤ 2400000000000 := by have h1 := HFEW.out; have h2 := HOL5.out; omega
  have HN := hid hn
  rw [hn]
  clear hn
  have HU6 : Hid ((w6.alloc (.cells #[.int .u64 0, .int .u64 (18446744073709551615 - f)] 30)).ownsRow w6.heap.size 30 1 (.slice (some ⟨w6.heap.size, 0, none⟩) 2 2) 2 [.int .u64 0, .int .u64 (18446744073709551615 - f)]) := by
    refine ⟨rfl, Or.inr ⟨w6.heap.size, 2, #[.int .u64 0, .int .u64 (18446744073709551615 - f)], rfl, Nat.le_refl _, heap_alloc_new w6 _, Nat.le_refl _, by decide, rfl, rfl⟩⟩
  have HSRC : Hid (ts.length = 0 ∨ ∃ ad, pt = some ad ∧ ∀ j u, (KU.cells ts)[j]? = some u → (w6.alloc (.cells #[.int .u64 0, .int .u64 (18446744073709551615 - f)] 30)).cell? (ad.add j) = some u) := by
    refine Kind.src (K := KU) ?_
    rcases HTD.out with h | ⟨b, off, h1, h2⟩
    · exact Or.inl h
    · exact Or.inr ⟨b, off, h1, Kind.at_kept h2 (HB6.out.alloc HB6.out.size _)⟩
  have hsub : (0 : Int) ≤ 18446744073709551615 - f := by omega
  go_wp2_with (at_builtin; refine wpList_append_rows _ rfl _ _ 38 rfl w6.heap.size 30 iU (.int .u64 0) 1 8 Try.underlying38 HIU.out hu0 hu1 hu2 rfl (by decide) _ 2 [.int .u64 0, .int .u64 (18446744073709551615 - f)] rfl HU6.out pt ts.length ct (KU.cells ts) rfl (KU.cells_len ts) HSRC.out (KU.cells_ones ts) (by unfold maxLen; omega) (by omega) (by simp) ?_; intro v7 w7 hown7 hg7; have HO7 := hid hown7; have HG7 := hid hg7; clear hown7 hg7; obtain ⟨p7, c7, hv7⟩ : ∃ p c, v7 = .slice p (2 + ts.length) c := (by rcases HO7.out.2 with ⟨_, h2⟩ | ⟨g, cap, _, h1, _⟩; (omega); exact ⟨_, _, h1⟩); subst hv7)
  have HK7 : Hid (KU.Own w6.heap.size w7 (.slice p7 (2 + ts.length) c7) (0 :: (18446744073709551615 - f) :: ts)) := by
    show w7.ownsRow _ _ _ _ _ _
    have h1 := HO7.out
    have e1 : (0 :: (18446744073709551615 - f) :: ts).length = 2 + ts.length := by simp; omega
    rw [e1]
    exact h1
  have HB7 : Hid (Below w6.heap.size w6 w7) := ((Below.refl _ w6).alloc (Nat.le_refl _) _).grown HG7.out (by simp) fun k hk => (World.ownsRow.lt HU6.out k hk).1
  clear HO7 HG7 HU6 HSRC HTD HIU
  obtain ⟨L, hL⟩ : ∃ L, (0 :: (18446744073709551615 - f) :: ts : List Int) = L := ⟨_, rfl⟩
  have hLl : 2 + ts.length = L.length := by rw [← hL]; simp; omega
  have HLB : Hid (∀ t ∈ L, 0 ≤ t ∧ t ≤ 18446744073709551615) := fun t ht => by
    rw [← hL] at ht
    simp only [List.mem_cons] at ht
    rcases ht with rfl | rfl | ht
    · omega
    · omega
    · exact HTB.out t ht
  have hLs : L.length ≤ 17592186044002 := by omega
  rw [hL] at HK7
  rw [hLl] at HK7 ⊢
  have HLL := hid hLl
  clear hL hLl HTB htl
  have HP7 : Hid (0 < L.length → ∃ b, p7 = some ⟨b, 0, none⟩ ∧ KU.At w7 b 0 L) := fun h0 => by
    obtain ⟨p', c', hsl, hI⟩ := Kind.own_is HK7.out
    injection hsl with e1 _ _
    subst e1
    rcases HK7.out.2 with ⟨h, _⟩ | ⟨b, _, _, h, _⟩
    · injection h with _ h2 _; omega
    · injection h with h2 _ _
      subst h2
      rcases hI with hI | ⟨b', off, e2, hat⟩
      · rw [hI] at h0; simp at h0
      · cases e2
        exact ⟨b, rfl, hat⟩
  go_wp2_with fail
  go_loopg [47] L.length (fun gg vi wr => ∃ i : Nat, vi = .int .i64 i ∧ i ≤ L.length ∧ L.length - i ≤ gg ∧ Hid (Below w7.heap.size w7 wr))
  case atStart => exact ⟨0, rfl, by omega, by omega, Below.refl _ _⟩
  case round =>
    obtain ⟨i, rfl, hi, hgk, HW⟩ := hrel
    by_cases hlt : i < L.length
    · have hltz : (i : Int) < (L.length : Int) := by omega
      have hltz2 : (i : Int) < 2 + (ts.length : Int) := by have := HLL.out; omega
      have hiz : (0 : Int) ≤ i := by omega
      obtain ⟨b, rfl, hat⟩ := HP7.out (by omega)
      have y0 := ku_at (Kind.at_kept hat HW.out) i hlt
      rw [Nat.zero_add] at y0
      obtain ⟨t0, t1⟩ := HLB.out _ (List.getElem_mem hlt)
      obtain ⟨t, ht⟩ : ∃ t, L[i] = t := ⟨_, rfl⟩
      rw [ht] at y0 t0 t1
      clear ht hat
      by_cases hgt : 18446744073709551615 - f < t
      · go_wp2_with fail
        go_roundg (L.length - (i + 1))
        case measure => omega
        exact ⟨i + 1, by go_num, by omega, by omega, HW.out⟩
      · have hle : t ≤ 18446744073709551615 - f := by omega
        obtain ⟨e1, e2⟩ := HPT.out (f + t) (by omega)
        have h67 := bel_then HB7.out HB7.out.size HW.out
        have HAr := hid (HA6.out.on h67)
        have HCr := hid (HC6.out.on h67)
        have HATa := hid (st_at HAr.out (f + t))
        have HATb : Hid (∀ W, Below wr.heap.size wr W → Calls Try.prog 16 #[.pointer (some ⟨gb, 0, none⟩), .int .u64 (f + t)] W fun e w' => VAns W (atV l (f + t)) e w') := fun W hW => by
          have := st_at (HCr.out.on hW) (f + t)
          rw [e1] at this
          exact this
        have HSIa : Hid (∀ W, Below wr.heap.size wr W → Calls Try.prog 19 #[.pointer (some ⟨ga, 0, none⟩), .int .u64 (f + t)] W fun e w' => AllPost W (sinceV l (f + t)) e w') := fun W hW => st_since (HAr.out.on hW) (f + t)
        have HSIb : Hid (∀ W, Below wr.heap.size wr W → Calls Try.prog 19 #[.pointer (some ⟨gb, 0, none⟩), .int .u64 (f + t)] W fun e w' => AllPost W (sinceV l (f + t)) e w') := fun W hW => by
          have := st_since (HCr.out.on hW) (f + t)
          rw [e2] at this
          exact this
        have HMA : Hid (∀ v, atV l (f + t) = some v → mayB v.val = true) := fun v hv => HMAY.out v (at_mem hv)
        have HMS : Hid ((∀ v ∈ sinceV l (f + t), mayB v.val = true) ∧ (sinceV l (f + t)).length ≤ 2400000000000) := ⟨fun v hv => HMAY.out v (since_mem hv), by
          have := HFEW.out
          unfold sinceV
          rw [List.length_drop]; omega⟩
        obtain ⟨AV, hAV⟩ : ∃ AV, atV l (f + t) = AV := ⟨_, rfl⟩
        obtain ⟨SV, hSV⟩ : ∃ SV, sinceV l (f + t) = SV := ⟨_, rfl⟩
        rw [hAV] at HATa HATb HMA
        rw [hSV] at HSIa HSIb HMS
        clear e1 e2 h67 HAr HCr hAV hSV
        go_wp2_with fail
        refine HATa.out.mono ?_
        rintro e r1 ⟨xa, rfl, hxa, hJa, hbr1⟩
        have hba : Below wr.heap.size wr (r1.alloc (.cells (encVx xa).toArray 41)) := hbr1.alloc hbr1.size _
        have HVa : Hid (VerAt (r1.alloc (.cells (encVx xa).toArray 41)) r1.heap.size xa) := heap_alloc_new r1 _
        obtain ⟨Aa, hAa⟩ : ∃ Aa, r1.heap.size = Aa := ⟨_, rfl⟩
        rw [hAa] at HVa
        have hJa' : xa.at r1 := hJa.1.is
        have HXa : Hid (xa.ver = AV.getD zeroV ∧ xa.at (r1.alloc (.cells (encVx xa).toArray 41))) := ⟨hxa, hJa'.kept ((Below.refl _ _).alloc (Nat.le_refl _) _)⟩
        have HBa := hid hba
        have HATb1 := hid (HATb.out _ hba)
        clear hxa hJa hJa' hbr1 hba HATa HATb
        have HSame : Hid (∀ (y : Vx) (W : World), y.ver = AV.getD zeroV → y.at W → xa.at W → Calls Try.prog 18 #[.agg (encVx xa).toArray, .agg (encVx y).toArray] W fun r w' => r = .returned (.bool true) ∧ Below W.heap.size W w') := fun y W h1 h2 h3 => sameV_two HXa.out.1 h1 h3 h2 HMA.out
        have HXk : Hid (∀ W, Below (r1.alloc (.cells (encVx xa).toArray 41)).heap.size (r1.alloc (.cells (encVx xa).toArray 41)) W → xa.at W) := fun W hW => HXa.out.2.kept hW
        obtain ⟨an, as_, at_, al, ap, ac, ao⟩ := xa
        simp only [encVx, Vx.sl] at HVa HBa HATb1 HSame HXk ⊢
        obtain ⟨B1, hB1⟩ : ∃ B1, AV.isSome = B1 := ⟨_, rfl⟩
        rw [hB1] at ⊢
        have HB1 := hid hB1
        clear hB1 HXa
        go_wp2_with fail
        try rw [hAa]
        clear hAa
        refine HATb1.out.mono ?_
        rintro e r2 ⟨xb, rfl, hxb, hJb, hbr2⟩
        have hbb : Below _ _ (r2.alloc (.cells (encVx xb).toArray 41)) := hbr2.alloc hbr2.size _
        have HVb : Hid (VerAt (r2.alloc (.cells (encVx xb).toArray 41)) r2.heap.size xb) := heap_alloc_new r2 _
        obtain ⟨Ab, hAb⟩ : ∃ Ab, r2.heap.size = Ab := ⟨_, rfl⟩
        rw [hAb] at HVb
        have hJb' : xb.at r2 := hJb.1.is
        have HSM := hid (HSame.out xb _ hxb (hJb'.kept ((Below.refl _ _).alloc (Nat.le_refl _) _)) (HXk.out _ hbb))
        have HBb := hid (bel_then HBa.out HBa.out.size hbb)
        obtain ⟨a0, a1, a2, a3, a4⟩ := (HVa.out.on hbb).cells
        obtain ⟨b0, b1, b2, b3, b4⟩ := HVb.out.cells
        obtain ⟨bn, bs_, bt_, bl, bp, bc, bo⟩ := xb
        simp only [encVx, Vx.sl, Nat.zero_add] at HVb HBb HSM a0 a1 a2 a3 a4 b0 b1 b2 b3 b4 ⊢
        rw [HB1.out]
        have hbne := bool_ne_self B1
        clear hxb hJb hJb' hbr2 hbb HATb1 HSame HXk HVa HVb HBa
        go_wp2_with fail
        try rw [hAb]
        clear hAb
        refine HSM.out.mono ?_
        rintro e r3 ⟨rfl, hbr3⟩
        have hB3 := bel_then HBb.out HBb.out.size hbr3
        have HSI1 := hid (HSIa.out _ hB3)
        have HBr3 := hid hB3
        clear hbr3 hB3 HSM a0 a1 a2 a3 a4 b0 b1 b2 b3 b4 HBb
        go_wp2_with fail
        refine HSI1.out.mono ?_
        intro e r4 hp4
        obtain ⟨u4, q4, rfl, htl4, hbr4⟩ := all_told hp4
        obtain ⟨pp4, cc4, rfl⟩ := Kind.own_shape htl4.own
        have hB4 := bel_then HBr3.out HBr3.out.size hbr4
        have HSI2 := hid (HSIb.out _ hB4)
        have HTl4 := hid htl4
        have HBr4 := hid hB4
        clear hp4 htl4 hbr4 hB4 HSI1 HBr3
        go_wp2_with fail
        refine HSI2.out.mono ?_
        intro e r5 hp5
        obtain ⟨u5, q5, rfl, htl5, hbr5⟩ := all_told hp5
        have HS5 := hid (sameVs_two (HTl4.out.on hbr5) htl5 HMS.out.1 HMS.out.2)
        obtain ⟨pp5, cc5, rfl⟩ := Kind.own_shape htl5.own
        have HBr5 := hid (bel_then HBr4.out HBr4.out.size hbr5)
        clear hp5 htl5 hbr5 HSI2 HBr4 HTl4
        go_wp2_with fail
        refine HS5.out.mono ?_
        rintro e r6 ⟨rfl, hbr6⟩
        have HBr6 := hid (bel_then HW.out HW.out.size (bel_then HBr5.out HBr5.out.size hbr6))
        clear hbr6 HS5 HBr5
        go_wp2_with fail
        go_roundg (L.length - (i + 1))
        case measure => omega
        exact ⟨i + 1, by go_num, by omega, by omega, HBr6.out⟩
    · have hltz : ¬ (i : Int) < 2 + (ts.length : Int) := by have := HLL.out; omega
      have h67 := bel_then HB7.out HB7.out.size HW.out
      have hAr := HA6.out.on h67
      have hCr := HC6.out.on h67
      have HTr := hid (HT6.out.on h67)
      have HVr := hid (HV6.out.on h67)
      have HJr := hid (HJ6.out.on h67)
      have HBr := hid (bel_then HB6.out HB6.out.size h67)
      have HLAa := hid (st_last hAr)
      have HCr := hid hCr
      have HLAb : Hid (∀ W, Below wr.heap.size wr W → Calls Try.prog 20 #[.pointer (some ⟨gb, 0, none⟩)] W fun e w' => VAns W l.getLast? e w') := fun W hW => by
        have := st_last (HCr.out.on hW)
        rw [prune_last] at this
        exact this
      have HML : Hid (∀ v, l.getLast? = some v → mayB v.val = true) := fun v hv => HMAY.out v (List.mem_of_getLast? hv)
      have HPR2 : Hid (∀ W, Below wr.heap.size wr W → Calls Try.prog 17 #[.pointer (some ⟨gb, 0, none⟩), .int .u64 f] W fun r w' => r = .returned (.int .i64 0) ∧ Fr (fun k => ((w2.heap.size ≤ k ∧ k < w3.heap.size) ∨ w5.heap.size ≤ k) ∧ k < w6.heap.size) W w') := fun W hW => by
        refine (st_prune3 HQ6.out (bel_then h67 h67.size hW) f).mono ?_
        rintro r w' ⟨h1, _, h2⟩
        rw [prune_twice HRISE.out] at h1
        exact ⟨h1, h2⟩
      have HAL2 : Hid (∀ W, Below wr.heap.size wr W → Calls Try.prog 13 #[.pointer (some ⟨gb, 0, none⟩)] W fun e w' => AllPost W (l.drop n) e w') := fun W hW => by
        have := st_all (HCr.out.on hW)
        unfold pruneV at this
        rw [HN.out] at this
        exact this
      have hw2r : w2.heap.size ≤ wr.heap.size := by have h1 := HCr.out.base; omega
      have h6r : w6.heap.size ≤ wr.heap.size := h67.size
      clear h67 hAr hCr HA6 HC6 HQ6 HT6 HV6 HJ6 HB6 HPT HP7 HK7 HB7 HLB HW HCr
      generalize l.getLast? = LO at HLAa HLAb HML
      go_wp2_with fail
      refine HLAa.out.mono ?_
      rintro e r1 ⟨xa, rfl, hxa, hJa, hbr1⟩
      have hba : Below wr.heap.size wr (r1.alloc (.cells (encVx xa).toArray 41)) := hbr1.alloc hbr1.size _
      have HVa : Hid (VerAt (r1.alloc (.cells (encVx xa).toArray 41)) r1.heap.size xa) := heap_alloc_new r1 _
      obtain ⟨Aa, hAa⟩ : ∃ Aa, r1.heap.size = Aa := ⟨_, rfl⟩
      rw [hAa] at HVa
      have hJa' : xa.at r1 := hJa.1.is
      have HXa : Hid (xa.ver = LO.getD zeroV ∧ xa.at (r1.alloc (.cells (encVx xa).toArray 41))) := ⟨hxa, hJa'.kept ((Below.refl _ _).alloc (Nat.le_refl _) _)⟩
      have HBa := hid hba
      have HATb1 := hid (HLAb.out _ hba)
      clear hxa hJa hJa' hbr1 hba HLAa HLAb
      have HSame : Hid (∀ (y : Vx) (W : World), y.ver = LO.getD zeroV → y.at W → xa.at W → Calls Try.prog 18 #[.agg (encVx xa).toArray, .agg (encVx y).toArray] W fun r w' => r = .returned (.bool true) ∧ Below W.heap.size W w') := fun y W h1 h2 h3 => sameV_two HXa.out.1 h1 h3 h2 HML.out
      have HXk : Hid (∀ W, Below (r1.alloc (.cells (encVx xa).toArray 41)).heap.size (r1.alloc (.cells (encVx xa).toArray 41)) W → xa.at W) := fun W hW => HXa.out.2.kept hW
      obtain ⟨an, as_, at_, al, ap, ac, ao⟩ := xa
      simp only [encVx, Vx.sl] at HVa HBa HATb1 HSame HXk ⊢
      obtain ⟨B1, hB1⟩ : ∃ B1, LO.isSome = B1 := ⟨_, rfl⟩
      rw [hB1] at ⊢
      have HB1 := hid hB1
      clear hB1 HXa
      go_wp2_with fail
      try rw [hAa]
      clear hAa
      refine HATb1.out.mono ?_
      rintro e r2 ⟨xb, rfl, hxb, hJb, hbr2⟩
      have hbb : Below _ _ (r2.alloc (.cells (encVx xb).toArray 41)) := hbr2.alloc hbr2.size _
      have HVb : Hid (VerAt (r2.alloc (.cells (encVx xb).toArray 41)) r2.heap.size xb) := heap_alloc_new r2 _
      obtain ⟨Ab, hAb⟩ : ∃ Ab, r2.heap.size = Ab := ⟨_, rfl⟩
      rw [hAb] at HVb
      have hJb' : xb.at r2 := hJb.1.is
      have HSM : Hid (∀ W, Below (r2.alloc (.cells (encVx xb).toArray 41)).heap.size (r2.alloc (.cells (encVx xb).toArray 41)) W → _) := fun W hW => HSame.out xb W hxb ((hJb'.kept ((Below.refl _ _).alloc (Nat.le_refl _) _)).kept hW) (HXk.out W (bel_then hbb hbb.size hW))
      have HBb := hid (bel_then HBa.out HBa.out.size hbb)
      have HVab := hid (HVa.out.on hbb)
      have HALb := hid (HAL2.out _ HBb.out)
      obtain ⟨bn, bs_, bt_, bl, bp, bc, bo⟩ := xb
      simp only [encVx, Vx.sl] at HVb HBb HSM HVab HALb ⊢
      rw [HB1.out]
      have hbne := bool_ne_self B1
      clear hxb hJb hJb' hbr2 hbb HATb1 HSame HXk HVa HBa HAL2
      go_wp2_with fail
      try rw [hAb]
      clear hAb
      refine HALb.out.mono ?_
      intro e r3 hp3
      obtain ⟨u3, q3, rfl, ht3, hbr3⟩ := all_told hp3
      obtain ⟨p3, c3, rfl⟩ := Kind.own_shape ht3.own
      obtain ⟨a0, a1, a2, a3, a4⟩ := (HVab.out.on hbr3).cells
      obtain ⟨b0, b1, b2, b3, b4⟩ := (HVb.out.on hbr3).cells
      simp only [Vx.sl, Nat.zero_add] at a1 a2 a3 a4 b1 b2 b3 b4
      have HSM3 := hid (HSM.out r3 hbr3)
      have hB3 := bel_then HBb.out HBb.out.size hbr3
      have HBr3 := hid hB3
      have HT3 := hid ht3
      have hq3 : q3.length = o5.length - n := by have h1 := ht3.len; rw [List.length_drop, ← HOL5.out] at h1; exact h1
      have HQ3 := hid hq3
      have hneg : decide ((n : Int) < 0) = false := decide_eq_false (by omega)
      have hneg2 : ¬ (n : Int) < 0 := by omega
      have hgtn : ¬ (o5.length : Int) < (n : Int) := by omega
      have hsubn : ((q3.length : Int) != (o5.length : Int) - (n : Int)) = false := by
        rw [bne_eq_false_iff_eq]
        omega
      have hcap5 := hcu.1
      have i1 : (0 : Int) ≤ (n : Int) := by omega
      have i2 : (n : Int) ≤ (o5.length : Int) := by omega
      have i3 : (o5.length : Int) ≤ (c5 : Int) := by omega
      have i4 : (n : Int) ≤ (c5 : Int) := by omega
      have hNb := HBb.out.size
      obtain ⟨ps, hps⟩ : ∃ ps, (if c5 = n then p5 else Option.map (fun x => x.add (n * 5)) p5) = ps := ⟨_, rfl⟩
      have HPS := hid hps
      clear hp3 ht3 hbr3 hB3 HALb HSM HVab HVb HBb hq3
      go_wp2_with fail
      refine HSM3.out.mono ?_
      rintro e r4 ⟨rfl, hbr4⟩
      have hB4 := bel_then HBr3.out HBr3.out.size hbr4
      have HT4 := hid (HT3.out.on hbr4)
      have HTr4 := hid (HTr.out.on hB4)
      have HSS : Hid (∀ tv, tv = tailV p5 o5.length c5 n → Calls Try.prog 12 #[.slice p3 q3.length c3, tv] r4 fun r w' => r = .returned (.bool true) ∧ Below r4.heap.size r4 w') := fun tv htv => by
        subst htv
        have := sameVs_tail HT4.out HTr4.out n hnl (fun v hv => HMAY.out v (List.mem_of_mem_drop hv)) HMAY.out (by have := HFEW.out; rw [List.length_drop]; omega)
        rw [decide_eq_true rfl] at this
        exact this
      have HBr4 := hid hB4
      clear hbr4 hB4 HSM3 a0 a1 a2 a3 a4 b0 b1 b2 b3 b4 HBr3
      go_wp2_with fail
      clear hps
      refine (HSS.out _ (by unfold tailV; rw [HPS.out])).mono ?_
      rintro e r5 ⟨rfl, hbr5⟩
      have hB5 := bel_then HBr4.out HBr4.out.size hbr5
      have HBr5 := hid hB5
      have HT5 := hid (HT4.out.on hbr5)
      have HPC := hid (HPR2.out r5 hB5)
      clear hbr5 hB5 HSS HBr4 HT4 HTr4 HPR2
      go_wp2_with fail
      refine HPC.out.mono ?_
      rintro e r6 ⟨rfl, hf6⟩
      have hT6 := HT5.out.fr hf6 fun k hk => by
        have h1 := hk.2
        omega
      have hb6 : Below w.heap.size w r6 := (bel_then HBr.out HBr.out.size HBr5.out).trans (hf6.below (by have h1 := HBr5.out.size; omega) fun k hk => by rcases hk.1 with h | h <;> omega)
      have hV6 := (HVr.out.on HBr5.out).fr hf6 (by omega)
      have hJ6 := ownJ_fr (HJr.out.on HBr5.out) hf6 fun k hk h => by
        have h1 := HJB.out k hk
        omega
      have HB6 := hid hb6
      have HT6 := hid hT6
      have HV6 := hid hV6
      have HJ6 := hid hJ6
      clear hT6 hb6 hV6 hJ6 hf6 HPC HT5 HVr HJr HBr5 HBr
      have hHOL := HOL5.out
      cases hav : atV l f with
      | none =>
        have hth : there = false := by rw [← HTH.out, hav]; rfl
        have hn0 : n = 0 := by
          have h1 := HN.out
          unfold atV at hav
          unfold pruneN at h1
          split at hav
          · omega
          · next hc =>
            have h2 := cutV_le l f
            rw [List.getElem?_eq_none_iff] at hav
            omega
        subst hth
        have hnb : ((n : Int) == 0) = true := by rw [hn0]; rfl
        have mixed := Try.mixed
        clear hav hn0 hHOL HTH HN HOL5 HX4 hsubn
        go_wp2_with fail
        refine wp_region_quiet_lit mixed (by kernel_rfl) ?_
        repeat (go_big_quiet_step (fail))
        refine wpQuiet_nil ?_
        intro _ hw'
        obtain ⟨nq, hw''⟩ := hw'
        subst hw''
        go_wp2_with fail
        go_ret
        exact ⟨rfl, bel_drewN HB6.out _⟩
      | some va =>
        have hth : there = true := by rw [← HTH.out, hav]; rfl
        have hhd := prune_head hav
        unfold pruneV at hhd
        rw [HN.out] at hhd
        have hq0 : 0 < q3.length := by
          have h1 := (List.getElem?_eq_some_iff.1 hhd).1
          rw [List.length_drop] at h1
          have h2 := HQ3.out
          omega
        have HV0 : Hid (q3[0].ver = va) := by
          have h1 := told_at2 HT6.out 0 hq0
          have h2 := (List.getElem?_eq_some_iff.1 hhd).2
          show _ = _
          rw [h1]; exact h2
        have HX4V : Hid (Vx.ver ⟨xn4, xs4, xt4, xl4, xp4, xc4, xo4⟩ = va) := by
          show _ = _
          rw [HX4.out, hav]; rfl
        have hmva : mayB va.val = true := HMAY.out va (at_mem hav)
        have hpb : ∃ b3, p3 = some ⟨b3, 0, none⟩ := by
          rcases HT6.out.own.2 with ⟨h, _⟩ | ⟨b, _, _, h, _⟩
          · injection h with _ h2 _; omega
          · injection h with h2 _ _; exact ⟨b, h2⟩
        obtain ⟨b3, rfl⟩ := hpb
        have HCE : Hid (∀ W, Below r6.heap.size r6 W → CellsV W b3 0 q3[0] ∧ CellsV W A4 0 ⟨xn4, xs4, xt4, xl4, xp4, xc4, xo4⟩) := fun W hW => by
          have h1 := kv_at (own_atV (HT6.out.on hW).own hq0) 0 hq0
          rw [Nat.zero_mul, Nat.zero_add] at h1
          exact ⟨h1, (HV6.out.on hW).cells⟩
        have HSC : Hid (∀ W, Below r6.heap.size r6 W → Calls Try.prog 18 #[.agg (encVx q3[0]).toArray, .agg (encVx ⟨xn4, xs4, xt4, xl4, xp4, xc4, xo4⟩).toArray] W fun r w' => r = .returned (.bool true) ∧ Grown W w') := fun W hW => by
          have h1 : Vx.at r6 ⟨xn4, xs4, xt4, xl4, xp4, xc4, xo4⟩ := HJ6.out.1.is
          have h2 := sameV_grown q3[0] ⟨xn4, xs4, xt4, xl4, xp4, xc4, xo4⟩ W ((HT6.out.on hW).each _ (List.getElem_mem hq0)).1.is (h1.kept hW) (vans_fit (o := some va) HV0.out fun v hv => by cases hv; exact hmva) (vans_fit (o := some va) HX4V.out fun v hv => by cases hv; exact hmva)
          rw [decide_eq_true (HV0.out.trans HX4V.out.symm)] at h2
          exact h2
        generalize q3[0] = y at *
        subst hth
        have hpos : decide ((0 : Int) < (q3.length : Int)) = true := decide_eq_true (by omega)
        have hpos' : decide (0 < q3.length) = true := decide_eq_true (by omega)
        have hposz : (0 : Int) < (q3.length : Int) := by omega
        have hw6d : Below r6.heap.size r6 r6.drew := (Below.refl _ _).drew
        obtain ⟨yn, ys, yt, yl, yp, yc, yo⟩ := y
        simp only [CellsV, encVx, Vx.sl] at HCE HSC
        have s0 := HCE.out _ hw6d
        clear hav hHOL HTH HN HOL5 HX4 hhd HV0 HX4V hmva HT6 HV6 HJ6 HJB HT3 HQ3 HTr HFEW HMAY HRISE HPS
        go_wp2_with fail
        clear hsubn hneg hneg2 hgtn hcap5 i1 i2 i3 i4 hnl hof hcu hcm hLs hsz6 hw20 h23 hs4 hS4 hn2 h6r hw2r hNb hltz hi hgk hlt HLL
        have HGB : Hid (∀ n os, Below r6.heap.size r6 (Sort.grow (r6.drewN n) os)) := fun n os => ((Grown.refl r6).on (q := n) (os := os)).below
        have z10 : ∀ n os, (Sort.grow (r6.drewN n) os).cell? ⟨b3, 0, none⟩ = some (.int .i64 yn) := fun n os => (HCE.out _ (HGB.out n os)).1.1
        have z11 : ∀ n os, (Sort.grow (r6.drewN n) os).cell? ⟨b3, 1, none⟩ = some (.int .u64 ys) := fun n os => (HCE.out _ (HGB.out n os)).1.2.1
        have z12 : ∀ n os, (Sort.grow (r6.drewN n) os).cell? ⟨b3, 2, none⟩ = some (.int .i64 yt) := fun n os => (HCE.out _ (HGB.out n os)).1.2.2.1
        have z13 : ∀ n os, (Sort.grow (r6.drewN n) os).cell? ⟨b3, 3, none⟩ = some (.bool yl) := fun n os => (HCE.out _ (HGB.out n os)).1.2.2.2.1
        have z14 : ∀ n os, (Sort.grow (r6.drewN n) os).cell? ⟨b3, 4, none⟩ = some (.slice yp yo.length yc) := fun n os => (HCE.out _ (HGB.out n os)).1.2.2.2.2
        have z20 : ∀ n os, (Sort.grow (r6.drewN n) os).cell? ⟨A4, 0, none⟩ = some (.int .i64 xn4) := fun n os => (HCE.out _ (HGB.out n os)).2.1
        have z21 : ∀ n os, (Sort.grow (r6.drewN n) os).cell? ⟨A4, 1, none⟩ = some (.int .u64 xs4) := fun n os => (HCE.out _ (HGB.out n os)).2.2.1
        have z22 : ∀ n os, (Sort.grow (r6.drewN n) os).cell? ⟨A4, 2, none⟩ = some (.int .i64 xt4) := fun n os => (HCE.out _ (HGB.out n os)).2.2.2.1
        have z23 : ∀ n os, (Sort.grow (r6.drewN n) os).cell? ⟨A4, 3, none⟩ = some (.bool xl4) := fun n os => (HCE.out _ (HGB.out n os)).2.2.2.2.1
        have z24 : ∀ n os, (Sort.grow (r6.drewN n) os).cell? ⟨A4, 4, none⟩ = some (.slice xp4 xo4.length xc4) := fun n os => (HCE.out _ (HGB.out n os)).2.2.2.2.2
        have mixed := Try.mixed
        clear s0
        refine wp_region_quiet_grown mixed (by kernel_rfl) ?_
        repeat (go_big_quiet_step (first | (go_at_call 18; refine Calls.grown_of (HSC.out _ (HGB.out _ _)))))
        refine wpQuiet_nil ?_
        intro _ hw'
        obtain ⟨⟨nq, osq⟩, hw''⟩ := hw'
        subst hw''
        have HBE := hid (bel_then HB6.out HB6.out.size (HGB.out nq osq))
        go_wp2_with fail
        go_ret
        exact ⟨rfl, HBE.out⟩

end Go.Proofs.Ytipbdpjnabeilaa

/-
  What rows of stage 6 open a list of stamps by.
-/
namespace Go.Proofs.Ytipbdpjnabeilaa
open Go.ChangeShapes Go.WideShapes Go.ChangeAt Go.RowKit Go.Lib Go.Deep Go.Joins

set_option maxRecDepth 100000 in
theorem open_u64s {H : Type} {enc : TypeId × Value → H} {W : World} {b0 : Nat} {v : Value} {dd : DataW H} {p : List MemPlace}
    (hv : Value.okWide Try.prog W .any b0 38 v) (h : DataW.Trod enc Try.prog W 0 (fun _ => true) true 38 v dd p) :
    ∃ q : List Int, KU.Is W v q ∧ (∀ t ∈ q, 0 ≤ t ∧ t ≤ 18446744073709551615) ∧ q.length ≤ Rows.uptoBulk dd := by
  obtain ⟨a0, len, cap, rfl⟩ := okWide_slice Try.underlying38 hv
  obtain ⟨fuel, hf⟩ := h
  rcases open_slice Try.underlying38 hf with ⟨hcs, _⟩ | ⟨a, l, c, m, n, D, Pl, hcs, _, hl, hm, hmm, hdat, hall⟩
  · simp [Value.cells] at hcs
    obtain ⟨rfl, rfl, rfl⟩ := hcs
    exact ⟨[], KU.is_nil W, fun x hx => by simp at hx, Nat.zero_le _⟩
  · simp [Value.cells] at hcs
    obtain ⟨rfl, rfl, rfl⟩ := hcs
    have hm' : m = cap := by simpa using hmm
    subst hm'
    rw [Try.cellsOpU] at hall
    have hdd : dd = .slice ((List.range len).map D) ((List.range (m - len)).map fun j => D (len + j)) := congrArg Prod.fst hdat
    have hlb : len ≤ Rows.uptoBulk dd := by
      rw [hdd]
      simp only [Rows.uptoBulk]
      have := bulk_len ((List.range len).map D)
      simp only [List.length_map, List.length_range] at this
      omega
    have each : ∀ i, i < len → ∃ t : Int, (∀ j u, (encU t)[j]? = some u → W.cell? (a.add (i * 1 + j)) = some u) ∧ 0 ≤ t ∧ t ≤ 18446744073709551615 := by
      intro i hi
      obtain ⟨cs', h1, h2⟩ := hall i (by omega)
      obtain ⟨_, hlen, hcell⟩ := World.cells?_some h1
      obtain ⟨t, rfl, _, ht⟩ := DataW.trod_int Try.underlying30 h2
      have hws : 0 ≤ t ∧ t ≤ 18446744073709551615 := by
        simp [Lit.wf, IntKind.min, IntKind.max, IntKind.signed, IntKind.bits] at ht
        omega
      refine ⟨t, fun j u hu => ?_, hws⟩
      have hj : j < 1 := by
        have := (List.getElem?_eq_some_iff.1 hu).1
        exact this
      have := hcell j hj
      rw [add_add] at this
      rw [this]; exact hu
    by_cases h0 : len = 0
    · subst h0
      exact ⟨[], ⟨_, _, rfl, Or.inl rfl⟩, fun x hx => by simp at hx, Nat.zero_le _⟩
    · obtain ⟨f, hff⟩ := choose_lt each
      have hc0 := (hff 0 (by omega)).1 0 _ rfl
      obtain ⟨b, off, spot⟩ := a
      have hspot : spot = none := by simpa [Addr.add] using World.cell?_spot hc0
      subst hspot
      have hlen : ((List.range len).map f).length = len := by simp
      refine ⟨(List.range len).map f, ⟨_, m, by rw [hlen], Or.inr ⟨b, off, rfl, fun i hi j u hu => ?_⟩⟩, fun x hx => ?_, by rw [hlen]; exact hlb⟩
      · have hi0 : i < len := by simpa using hi
        have ef : ((List.range len).map f)[i]'hi = f i := by simp
        rw [ef] at hu
        have := (hff i hi0).1 j u hu
        rw [addr_add] at this
        rw [Nat.add_assoc]
        exact this
      · obtain ⟨i, hi, rfl⟩ := List.mem_map.1 hx
        exact (hff i (List.mem_range.1 hi)).2

end Go.Proofs.Ytipbdpjnabeilaa

/-
  A list of stamps that came in, and what its row's size says.
-/
namespace Go.Proofs.Ytipbdpjnabeilaa
open Go.ChangeShapes Go.WideShapes Go.ChangeAt Go.RowKit Go.Lib Go.Deep Go.Joins

theorem Try.bytesU64 : Try.prog.bytesOf 30 = 8 := by kernel_rfl

set_option maxRecDepth 100000 in
theorem open_u64sZ {H : Type} {enc : TypeId × Value → H} {W : World} {b0 : Nat} {v : Value} {dd : DataW H} {p : List MemPlace}
    (hv : Value.okWide Try.prog W .any b0 38 v) (h : DataW.Trod enc Try.prog W 0 (fun _ => true) true 38 v dd p) (hZ : ∀ n ∈ dd.weights Try.prog 38, n ≤ reachBytes) :
    ∃ q : List Int, KU.Is W v q ∧ (∀ t ∈ q, 0 ≤ t ∧ t ≤ 18446744073709551615) ∧ q.length ≤ 17592186044000 := by
  obtain ⟨a0, len, cap, rfl⟩ := okWide_slice Try.underlying38 hv
  obtain ⟨fuel, hf⟩ := h
  rcases open_slice Try.underlying38 hf with ⟨hcs, _⟩ | ⟨a, l, c, m, n, D, Pl, hcs, _, hl, hm, hmm, hdat, hall⟩
  · simp [Value.cells] at hcs
    obtain ⟨rfl, rfl, rfl⟩ := hcs
    exact ⟨[], KU.is_nil W, fun x hx => by simp at hx, Nat.zero_le _⟩
  · simp [Value.cells] at hcs
    obtain ⟨rfl, rfl, rfl⟩ := hcs
    have hm' : m = cap := by simpa using hmm
    subst hm'
    rw [Try.cellsOpU] at hall
    have hdd : dd = .slice ((List.range len).map D) ((List.range (m - len)).map fun j => D (len + j)) := congrArg Prod.fst hdat
    have hlb : len ≤ 17592186044000 := by
      have := hZ ((((List.range len).map D).length + ((List.range (m - len)).map fun j => D (len + j)).length) * Try.prog.bytesOf 30) (by
        rw [hdd]
        simp only [DataW.weights, Try.underlying38]
        exact List.mem_cons_self)
      rw [Try.bytesU64] at this
      simp only [List.length_map, List.length_range] at this
      have hrb : reachBytes = 140737488351232 := by decide
      omega
    have each : ∀ i, i < len → ∃ t : Int, (∀ j u, (encU t)[j]? = some u → W.cell? (a.add (i * 1 + j)) = some u) ∧ 0 ≤ t ∧ t ≤ 18446744073709551615 := by
      intro i hi
      obtain ⟨cs', h1, h2⟩ := hall i (by omega)
      obtain ⟨_, hlen, hcell⟩ := World.cells?_some h1
      obtain ⟨t, rfl, _, ht⟩ := DataW.trod_int Try.underlying30 h2
      have hws : 0 ≤ t ∧ t ≤ 18446744073709551615 := by
        simp [Lit.wf, IntKind.min, IntKind.max, IntKind.signed, IntKind.bits] at ht
        omega
      refine ⟨t, fun j u hu => ?_, hws⟩
      have hj : j < 1 := by
        have := (List.getElem?_eq_some_iff.1 hu).1
        exact this
      have := hcell j hj
      rw [add_add] at this
      rw [this]; exact hu
    by_cases h0 : len = 0
    · subst h0
      exact ⟨[], ⟨_, _, rfl, Or.inl rfl⟩, fun x hx => by simp at hx, Nat.zero_le _⟩
    · obtain ⟨f, hff⟩ := choose_lt each
      have hc0 := (hff 0 (by omega)).1 0 _ rfl
      obtain ⟨b, off, spot⟩ := a
      have hspot : spot = none := by simpa [Addr.add] using World.cell?_spot hc0
      subst hspot
      have hlen : ((List.range len).map f).length = len := by simp
      refine ⟨(List.range len).map f, ⟨_, m, by rw [hlen], Or.inr ⟨b, off, rfl, fun i hi j u hu => ?_⟩⟩, fun x hx => ?_, by rw [hlen]; exact hlb⟩
      · have hi0 : i < len := by simpa using hi
        have ef : ((List.range len).map f)[i]'hi = f i := by simp
        rw [ef] at hu
        have := (hff i hi0).1 j u hu
        rw [addr_add] at this
        rw [Nat.add_assoc]
        exact this
      · obtain ⟨i, hi, rfl⟩ := List.mem_map.1 hx
        exact (hff i (List.mem_range.1 hi)).2

end Go.Proofs.Ytipbdpjnabeilaa
