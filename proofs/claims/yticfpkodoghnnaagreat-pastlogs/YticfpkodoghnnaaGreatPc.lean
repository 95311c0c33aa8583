/-
  Texts of this claim, one behind the other: Cp6 Cp7 Cp8 Cl0 Cst Cnl Spk Sh3 Ix Cut Kys Ddm Dat Tak Tkm Dfi Dpt Dpu Dcp Dpr Trm Rname Rp0 Rp1 Rp2 Ksu Pc0 Kst.
-/
import Derived.Test.YticfpkodoghnnaaGreatPb
import Derived.Test.YticfpkodoghnnaaGreatPa
import Derived.Deep.AppendLies
import Derived.Deep.RegionHeld3
import Derived.Shelf.Small.Bits
import Derived.Shelf.Small.Strs
import Derived.Shelf.Strconv.Itoa0
import Derived.Shelf.Strings.Search1
import Derived.Shelf.Strings.Search2
import Derived.Shelf.Strings.Search3
import Derived.Shelf.Strings.Prefix
import Derived.Ground.Names2Prog
import Derived.Shelf.Slices.Clone
import Derived.Ground.SlgnProg
import Derived.Shelf.SlicesE.Clone
import Derived.Ground.SlgfProg
import Derived.Shelf.SlicesE.IndexFunc
import Derived.Test.YticfpkodoghnnaaGreatProg
import Derived.Shelf.SlGeneric
import Derived.Shelf.SlicesQ.IndexFunc
import Derived.Shelf.SlSortCmp.InsertionK
import Derived.Ground.NamesProg
import Derived.Shelf.Lays
import Derived.Lib.Bytealg
import Derived.Lib.IndexBytes
import Derived.Deep.QuietTactic
import Derived.BigQuiet
import Derived.Deep.CutRange
import Derived.Laws.StructEq
import Derived.Shelf.GgSortFunc.RowK
import Derived.Shelf.SlSortCmp.SmallK
import Derived.Lib.SlicesCompact
import Derived.Lib.SliceRun
/-
  The program's chain (stage 6): Put.
-/
namespace Go.Proofs.YticfpkodoghnnaaGreat
open Go.RowKit

/-- The last version as it lies. -/
def lastX (d : List Vx) : Vx := d.getLast?.getD zeroVx

theorem lastX_ver (d : List Vx) : (lastX d).ver = lastV (d.map Vx.ver) := by
  unfold lastX lastV
  rw [List.getLast?_map]
  cases d.getLast? <;> rfl

/-- What Put says, and leaves. -/
def putC (l : List Vr) (stamp : Int) (live : Bool) (val : List Fld) : Int := putCode 8 3 6 (mayB val) l stamp live
def putN (l : List Vr) (stamp : Int) (live : Bool) (val : List Fld) : Int := if putC l stamp live val = 0 then (lastV l).num + 1 else 0
def putL (l : List Vr) (stamp tick : Int) (live : Bool) (val : List Fld) : List Vr := if putC l stamp live val = 0 then putV l stamp tick live val else l

/-- A version in a block of its own. -/
def VerAt (w : World) (N : Nat) (x : Vx) : Prop := w.heap[N]? = some (.cells (encVx x).toArray 39 (0, 0))

theorem VerAt.cells {w : World} {N : Nat} {x : Vx} (h : VerAt w N x) : CellsV w N 0 x := by
  unfold VerAt at h
  refine ⟨?_, ?_, ?_, ?_, ?_⟩ <;> (rw [Lib.cell_of_heap h]; rfl)

theorem VerAt.free {w : World} {N : Nat} {x : Vx} (h : VerAt w N x) (j : Nat) : w.frozen? ⟨N, j, none⟩ = false := by
  unfold VerAt at h
  unfold World.frozen?
  rw [h]; rfl

theorem VerAt.lt {w : World} {N : Nat} {x : Vx} (h : VerAt w N x) : N < w.heap.size := by
  unfold VerAt at h
  rcases Nat.lt_or_ge N w.heap.size with h' | h'
  · exact h'
  · rw [Array.getElem?_eq_none h'] at h; cases h

theorem VerAt.on {w W : World} {N : Nat} {x : Vx} (h : VerAt w N x) (hb : Below w.heap.size w W) : VerAt W N x := (hb.block N h.lt).trans h

/-- An append of one version, at a step of a region that draws. -/
theorem step_putV {ops : Array Oper} {o : Oper} {a : Act} {K : Act → World → Prop} {Q : Exit → Act → World → Prop} {E : Prop} (w : World) (hgd : o.guard = none) (s x : Operand)
    (ho : o.op = .call { callee := .builtin .append, args := #[s, x], argTypes := #[51, 51] }) (N : Nat) (v : Value) (d : List Vx) (hs : a.eval s = v) (hoj : KV.Own N w v d) (B : Nat) (f : Vx)
    (hx : a.eval x = .slice (some ⟨B, 0, none⟩) 1 1) (hB : VerAt w B f) (hl : d.length ≤ 2400000000000) (hN : N ≤ w.heap.size)
    (h : ∀ g cap w', KV.Own N w' (.slice (some ⟨g, 0, none⟩) (d.length + 1) cap) (d ++ [f]) → w.grownBy w' v.ownBlock → (v.ownBlock = some g ∨ g = w.heap.size) → K (a.put o.dst (.slice (some ⟨g, 0, none⟩) (d.length + 1) cap)) w') :
    if Region.wanted o (yielded ops a.tmps) = true then Oper.wp Tryz.prog o a w K Q else E := by
  obtain ⟨j0, hj, hj0, hj1, hj2⟩ := info_parts Tryz.infoVer
  refine step_append_lies w hgd s x 51 ho N 39 j0 (.agg #[.int .i64 0, .int .u64 0, .int .i64 0, .bool false, .slice none 0 0]) 5 56 Tryz.underlying51 hj hj0 hj1 hj2 rfl (by decide) v d.length (KV.cells d) hs hoj ⟨B, 0, none⟩ 1 1 (KV.cells [f]) hx rfl (fun j u hju => ?_) (KV.cells_ones _) (by decide) (by unfold maxLen; omega) (by omega) hN _ rfl (fun g cap w' h1 h2 h3 _ => h g cap w' (Kind.own_snoc h1 rfl rfl) h2 h3)
  rw [Kind.cells_one] at hju
  exact World.news_of_block hB j u hju

/-- The version that has been put lies behind the others. -/
theorem PrgC.push {n0 : Nat} {w W w4 : World} {g : Nat} {d : List Vx} {p : Option Addr} {cap : Nat} (hC : PrgC n0 w g d (.slice p d.length cap)) (hb : Below w.heap.size w W) (x : Vx) (hx : OwnJ w.heap.size W x.sl x.o) (hm : mayB (x.o.map Fx.fld) = true)
    {b c : Nat} (ho : KV.Own n0 w4 (.slice (some ⟨b, 0, none⟩) (d.length + 1) c) (d ++ [x])) (hg : W.grownBy w4 (Value.slice p d.length cap).ownBlock) (hat : (Value.slice p d.length cap).ownBlock = some b ∨ w.heap.size ≤ b)
    (hok : OkV ((d ++ [x]).map Vx.ver)) (htop : x.num ≤ 2400000000000) :
    TurnC n0 w g d (.slice p d.length cap) ((d ++ [x]).map Vx.ver) (w4.setCell ⟨g, 0, none⟩ (.slice (some ⟨b, 0, none⟩) (d.length + 1) c)) := by
  have hgl : g < w.heap.size := cell_block hC.cell
  have hCW := hC.on hb
  have hng := hC.base
  have hsW := hb.size
  have f1 : Fr (fun k => (Value.slice p d.length cap).ownBlock = some k) W w4 := Fr.of_grown hg fun k hk => hk
  have f2 : Fr (fun k => k = g) w4 (w4.setCell ⟨g, 0, none⟩ (.slice (some ⟨b, 0, none⟩) (d.length + 1) c)) := Fr.of_grown (grown_set w4 g 0 _) fun k hk => by simpa using hk.symm
  have hgb : b ≠ g := by
    rcases hat with h | h
    · exact hC.off b (Or.inl h)
    · omega
  have c4 : w4.cell? ⟨g, 0, none⟩ = some (.slice p d.length cap) := f1.cell hCW.cell fun h => hC.off g (Or.inl h) rfl
  have z4 : w4.frozen? ⟨g, 0, none⟩ = false := by
    have h1 := hCW.free
    unfold World.frozen? at h1 ⊢
    rw [f1.block g (by omega) fun h => hC.off g (Or.inl h) rfl]
    exact h1
  have hj : ∀ y ∈ d ++ [x], OwnJ n0 W y.sl y.o ∧ mayB (y.o.map Fx.fld) = true := fun y hy => by
    rcases List.mem_append.1 hy with hy | hy
    · exact hCW.each y hy
    · rw [List.mem_singleton] at hy
      subst hy
      exact ⟨own_weakJ hx (by omega), hm⟩
  have hxg : ∀ k, BlkV x k → w.heap.size ≤ k := fun k hk => (ownJ_blk hx k hk).1
  refine ⟨d ++ [x], .slice (some ⟨b, 0, none⟩) (d.length + 1) c, ⟨by simp [go_sem, c4], by simp [go_sem, z4], hng, ?_, fun y hy => ?_, ?_, hok, ?_⟩, rfl, ?_, ?_⟩
  · exact f2.row (show w4.ownsRow n0 39 5 (.slice (some ⟨b, 0, none⟩) (d.length + 1) c) (d ++ [x]).length (KV.cells (d ++ [x])) from ho) fun k hk e => by
      have : b = k := by simpa [Value.ownBlock] using hk
      omega
  · obtain ⟨h1, h2⟩ := hj y hy
    refine ⟨ownJ_fr (ownJ_fr h1 f1 fun k hk e => ver_off hCW.row h1 k e hk) f2 fun k hk e => ?_, h2⟩
    rcases List.mem_append.1 hy with hy | hy
    · exact hC.off k (Or.inr ⟨y, hy, hk⟩) e
    · rw [List.mem_singleton] at hy
      subst hy
      have := hxg k hk
      omega
  · rintro k (hk | ⟨y, hy, hk⟩)
    · have : b = k := by simpa [Value.ownBlock] using hk
      omega
    · rcases List.mem_append.1 hy with hy | hy
      · exact hC.off k (Or.inr ⟨y, hy, hk⟩)
      · rw [List.mem_singleton] at hy
        subst hy
        have := hxg k hk
        omega
  · rw [List.map_append]
    show (lastV (d.map Vx.ver ++ [x.ver])).num ≤ 2400000000000
    rw [lastV_snoc]
    exact htop
  · rintro k (rfl | hk | ⟨y, hy, hk⟩)
    · exact Or.inl (Or.inl rfl)
    · have : b = k := by simpa [Value.ownBlock] using hk
      subst this
      rcases hat with h | h
      · exact Or.inl (Or.inr (Or.inl h))
      · exact Or.inr h
    · rcases List.mem_append.1 hy with hy | hy
      · exact Or.inl (Or.inr (Or.inr ⟨y, hy, hk⟩))
      · rw [List.mem_singleton] at hy
        subst hy
        exact Or.inr (hxg k hk)
  · exact ((Fr.of_below hb).then f1 fun k hk => Or.inl (Or.inr (Or.inl hk))).then f2 fun k hk => Or.inl (Or.inl hk)

end Go.Proofs.YticfpkodoghnnaaGreat

/-
  The program's chain (stage 6): Put.
-/
namespace Go.Proofs.YticfpkodoghnnaaGreat
open Go.RowKit

theorem last_ge {l : List Vr} (h : OkV l) : 0 ≤ (lastV l).stamp := by
  rcases Nat.eq_zero_or_pos l.length with e | e
  · obtain rfl := List.length_eq_zero_iff.1 e
    exact Int.le_refl _
  · rw [lastV_get e]
    have := (h.first _ (List.getElem_mem (show l.length - 1 < l.length by omega))).2.1
    omega

theorem pc_old {l : List Vr} {stamp : Int} {live : Bool} {val : List Fld} (h : stamp ≤ (lastV l).stamp) : putC l stamp live val = 8 := by
  unfold putC putCode
  rw [if_pos (Or.inr h)]

theorem pc_at {l : List Vr} {stamp : Int} {live : Bool} {val : List Fld} (h0 : 0 ≤ (lastV l).stamp) (h : ¬ stamp ≤ (lastV l).stamp) :
    putC l stamp live val = if live = true ∧ mayB val = false then 3 else if live = false ∧ (lastV l).live = false then 6 else 0 := by
  unfold putC putCode
  rw [if_neg (by rintro (e | e) <;> omega)]

theorem own_atV {n0 : Nat} {w : World} {b n cap : Nat} {d : List Vx} (h : KV.Own n0 w (.slice (some ⟨b, 0, none⟩) n cap) d) (h0 : 0 < d.length) : KV.At w b 0 d := by
  obtain ⟨p', c', hsl, hI⟩ := Kind.own_is h
  injection hsl with e1 _ _
  rcases hI with rfl | ⟨b', off, e2, hat⟩
  · simp at h0
  · rw [e2] at e1
    have e3 := Option.some.inj e1
    injection e3 with e4 e5 _
    subst e4 e5
    exact hat

/-- The chain's last version is there to be read. -/
def LastAt (w : World) (d : List Vx) (p : Option Addr) (L : Vx) : Prop :=
  (d = [] ∧ L = zeroVx) ∨ ∃ b k, d.length = k + 1 ∧ p = some ⟨b, 0, none⟩ ∧ CellsV w b (k * 5) L

theorem last_at {n0 : Nat} {w : World} {g : Nat} {d : List Vx} {p : Option Addr} {cap : Nat} (hC : PrgC n0 w g d (.slice p d.length cap)) : LastAt w d p (lastX d) := by
  rcases Nat.eq_zero_or_pos d.length with he | he
  · obtain rfl := List.length_eq_zero_iff.1 he
    exact Or.inl ⟨rfl, rfl⟩
  · right
    obtain ⟨b1, rfl⟩ : ∃ b, p = some ⟨b, 0, none⟩ := by
      rcases hC.row.2 with ⟨h, _⟩ | ⟨b, _, _, h, _⟩
      · injection h with _ h2 _; omega
      · injection h with h2 _ _; exact ⟨b, h2⟩
    obtain ⟨k, hk⟩ : ∃ k, d.length = k + 1 := ⟨d.length - 1, by omega⟩
    have hL : lastX d = d[k] := by
      unfold lastX
      rw [List.getLast?_eq_getElem?, show d.length - 1 = k by omega, List.getElem?_eq_getElem (by omega)]; rfl
    have := kv_at (own_atV hC.row he) k (by omega)
    rw [Nat.zero_add] at this
    refine ⟨b1, k, hk, rfl, ?_⟩
    rw [hL]
    exact this

/-- Put, where it is refused without a look at the value. -/
theorem put_no {n0 : Nat} {w : World} {g : Nat} {d : List Vx} {vs : Value} (hC : PrgC n0 w g d vs) {stamp tick : Int} {live : Bool} {val : List Fld} {c : Int} (hc : putC (d.map Vx.ver) stamp live val = c) (h0 : c ≠ 0) {W : World} (hb : Below w.heap.size w W) :
    Value.tuple #[.int .i64 0, .int .i64 c] = Value.tuple #[.int .i64 (putN (d.map Vx.ver) stamp live val), .int .i64 (putC (d.map Vx.ver) stamp live val)] ∧ TurnC n0 w g d vs (putL (d.map Vx.ver) stamp tick live val) W := by
  unfold putN putL
  rw [hc, if_neg h0, if_neg h0]
  exact ⟨rfl, TurnC.same hC hb⟩

/-- Put, where it is taken. -/
theorem put_yes {n0 : Nat} {w W w4 : World} {g : Nat} {d : List Vx} {p : Option Addr} {cap : Nat} (hC : PrgC n0 w g d (.slice p d.length cap)) {stamp tick : Int} {live : Bool} {val : List Fld} (h0 : 0 ≤ stamp) (hc : putC (d.map Vx.ver) stamp live val = 0) (htop : (lastV (d.map Vx.ver)).num < 2400000000000)
    (hb : Below w.heap.size w W) {pu : Option Addr} {cu : Nat} {o : List Fx} (hx : OwnJ w.heap.size W (.slice pu o.length cu) o) (hm : mayB (o.map Fx.fld) = true) (hv : o.map Fx.fld = if live = true then val else [])
    {b c : Nat} (ho : KV.Own n0 w4 (.slice (some ⟨b, 0, none⟩) (d.length + 1) c) (d ++ [⟨(lastX d).num + 1, stamp, tick, live, pu, cu, o⟩])) (hg : W.grownBy w4 (Value.slice p d.length cap).ownBlock) (hat : (Value.slice p d.length cap).ownBlock = some b ∨ w.heap.size ≤ b) :
    Value.tuple #[.int .i64 ((lastX d).num + 1), .int .i64 0] = Value.tuple #[.int .i64 (putN (d.map Vx.ver) stamp live val), .int .i64 (putC (d.map Vx.ver) stamp live val)] ∧ TurnC n0 w g d (.slice p d.length cap) (putL (d.map Vx.ver) stamp tick live val) (w4.setCell ⟨g, 0, none⟩ (.slice (some ⟨b, 0, none⟩) (d.length + 1) c)) := by
  have hnum : (lastX d).num = (lastV (d.map Vx.ver)).num := by rw [← lastX_ver]; rfl
  have hmap : (d ++ [(⟨(lastX d).num + 1, stamp, tick, live, pu, cu, o⟩ : Vx)]).map Vx.ver = putV (d.map Vx.ver) stamp tick live val := by
    rw [List.map_append]
    unfold putV
    congr 1
    show [Vr.mk _ _ _ _ _] = _
    rw [hv, hnum]
  have hok : OkV (putV (d.map Vx.ver) stamp tick live val) := ok_put hC.ok h0 (by decide) (by decide) (by decide) hc
  have ht := hC.push hb ⟨(lastX d).num + 1, stamp, tick, live, pu, cu, o⟩ hx hm ho hg hat (by rw [hmap]; exact hok) (by show (lastX d).num + 1 ≤ 2400000000000; omega)
  unfold putN putL
  rw [if_pos hc, if_pos hc, hc, ← hmap, hnum]
  rw [hnum] at ht
  exact ⟨rfl, ht⟩

/-- What is there ahead of the append, and behind it. -/
structure PushAt (n0 : Nat) (w : World) (g : Nat) (d : List Vx) (vs : Value) (W5 : World) (M S : Nat) (X : Vx) : Prop where
  cell : W5.cell? ⟨g, 0, none⟩ = some vs
  free : W5.frozen? ⟨g, 0, none⟩ = false
  new : CellsV W5 M 0 X
  next : ∀ ob, (W5.alloc ob).cell? ⟨g, 0, none⟩ = some vs
  own : ∀ ob, KV.Own n0 (W5.alloc ob) vs d
  big : ∀ ob, n0 ≤ (W5.alloc ob).heap.size
  lies : VerAt (W5.alloc (.cells (encVx X).toArray 39)).drew S X
  then_ : ∀ ob w6, (W5.alloc ob).drew.grownBy w6 vs.ownBlock → w6.cell? ⟨g, 0, none⟩ = some vs ∧ w6.frozen? ⟨g, 0, none⟩ = false ∧ w6.cell? ⟨M, 0, none⟩ = some (.int .i64 X.num)
  ne : ¬ M = g
  bel : ∀ ob, Below w.heap.size w (W5.alloc ob).drew
  high : ∀ ob b, b = (W5.alloc ob).drew.heap.size → w.heap.size ≤ b

theorem push_at {n0 : Nat} {w : World} {g : Nat} {d : List Vx} {vs : Value} (hC : PrgC n0 w g d vs) {W5 : World} {M S : Nat} {X : Vx} (hb5 : Below w.heap.size w W5) (hX : VerAt W5 M X) (hM : w.heap.size ≤ M) (hS : W5.heap.size = S) : PushAt n0 w g d vs W5 M S X := by
  have hC5 := hC.on hb5
  have hgl : g < w.heap.size := cell_block hC.cell
  have hs5 := hb5.size
  have hMl := hX.lt
  refine ⟨hC5.cell, hC5.free, hX.cells, fun ob => cell_kept ob hC5.cell, fun ob => Kind.own_on hC5.row ((Below.refl _ _).alloc (Nat.le_refl _) _), fun ob => by have := hC.base; simp; omega, ?_, fun ob w6 hg => ?_, by omega, fun ob => bel_drewN (hb5.alloc hs5 _) 1, fun ob b hb => by
    have e : (W5.alloc ob).drew.heap.size = W5.heap.size + 1 := by show (W5.alloc ob).heap.size = _; simp
    omega⟩
  · rw [← hS]
    exact heap_alloc_new W5 _
  · have hc6 := hC5.on ((Below.refl _ _).alloc (Nat.le_refl _) ob)
    have e6 : w6.heap[g]? = (W5.alloc ob).heap[g]? := hg.block g (by show g < (W5.alloc ob).heap.size; simp; omega) fun e => hC.off g (Or.inl e.symm) rfl
    have e7 : w6.heap[M]? = (W5.alloc ob).heap[M]? := hg.block M (by show M < (W5.alloc ob).heap.size; simp; omega) fun e => by
      have := (hC.blk M (Or.inr (Or.inl e.symm))).2
      omega
    exact ⟨(World.cell?_of_block e6).trans hc6.cell, (World.frozen?_of_block e6).trans hc6.free, (World.cell?_of_block e7).trans (cell_kept ob hX.cells.1)⟩

set_option maxHeartbeats 1000000 in
set_option maxRecDepth 100000 in
theorem put_dead {n0 : Nat} {w : World} {g : Nat} {d : List Vx} {vs : Value} (hC : PrgC n0 w g d vs) (stamp tick : Int) (v : Value) (val : List Fld) (h0 : 0 ≤ stamp) (htop : (lastV (d.map Vx.ver)).num < 2400000000000) :
    Calls Tryz.prog 54 #[.pointer (some ⟨g, 0, none⟩), .int .u64 stamp, .int .i64 tick, .bool false, v] w fun r w' =>
      r = .returned (.tuple #[.int .i64 (putN (d.map Vx.ver) stamp false val), .int .i64 (putC (d.map Vx.ver) stamp false val)]) ∧ TurnC n0 w g d vs (putL (d.map Vx.ver) stamp tick false val) w' := by
  have HBX : Hid (Below w.heap.size w (w.alloc (.cells #[.int .i64 0, .int .u64 0, .int .i64 0, .bool false, .slice none 0 0] 39))) := (Below.refl _ _).alloc (Nat.le_refl _) _
  have HBL : Hid (Below w.heap.size w (w.alloc (.cells (encVx (lastX d)).toArray 39))) := (Below.refl _ _).alloc (Nat.le_refl _) _
  have HVL : Hid (VerAt (w.alloc (.cells (encVx (lastX d)).toArray 39)) w.heap.size (lastX d)) := heap_alloc_new w _
  have hC1 := hC.on HBX.out
  have hCL := hC.on HBL.out
  have HC := hid hC
  have hfew := hC.few
  obtain ⟨p, cap, rfl⟩ := Kind.own_shape hC.row
  have c0 := hC1.cell
  have cL := hCL.cell
  have zL := hCL.free
  have hge := last_ge hC.ok
  have hls : (lastX d).stamp = (lastV (d.map Vx.ver)).stamp := by rw [← lastX_ver]; rfl
  have hll : (lastX d).live = (lastV (d.map Vx.ver)).live := by rw [← lastX_ver]; rfl
  have hln : (lastX d).num = (lastV (d.map Vx.ver)).num := by rw [← lastX_ver]; rfl
  have hnum0 : 0 ≤ (lastX d).num := by have := ok_len hC.ok; rw [hln]; omega
  have HA := hid (last_at hC1)
  have HOLD : Hid ((lastX d).stamp < stamp ∨ putC (d.map Vx.ver) stamp false val = 8) := by
    rcases Int.lt_or_le (lastX d).stamp stamp with h | h
    · exact Or.inl h
    · exact Or.inr (pc_old (by rw [← hls]; exact h))
  have HNEW : Hid ((lastX d).stamp < stamp → putC (d.map Vx.ver) stamp false val = if (lastX d).live = false then 6 else 0) := fun h => by
    rw [pc_at hge (by rw [← hls]; omega), if_neg (by simp), hll]
    simp
  have hntop : (lastX d).num < 2400000000000 := by rw [hln]; exact htop
  have HYES : Hid (∀ (W w4 : World) (b c : Nat), putC (d.map Vx.ver) stamp false val = 0 → Below w.heap.size w W → KV.Own n0 w4 (.slice (some ⟨b, 0, none⟩) (d.length + 1) c) (d ++ [⟨(lastX d).num + 1, stamp, tick, false, none, 0, []⟩]) → W.grownBy w4 (Value.slice p d.length cap).ownBlock → ((Value.slice p d.length cap).ownBlock = some b ∨ w.heap.size ≤ b) → _) := fun W w4 b c hc hb ho hg hat => put_yes (W := W) (w4 := w4) hC (tick := tick) h0 hc htop hb (pu := none) (cu := 0) (o := []) (own_noneX _ _) may_nil rfl ho hg hat
  clear hC1 hC hls hll hln hge htop
  obtain ⟨L, hL⟩ : ∃ L, lastX d = L := ⟨_, rfl⟩
  rw [hL] at HBL HA HOLD HNEW HYES hnum0 hntop cL zL HVL
  clear hL
  obtain ⟨xn, xs, xt, xl, xp, xc, xo⟩ := L
  simp only [encVx, Vx.sl] at HBL HA HOLD HNEW HYES hnum0 hntop cL zL HVL
  by_cases hs : xs < stamp
  · have hs' : ¬ stamp ≤ xs := by omega
    cases xl with
    | false =>
      have H6 := hid (HNEW.out hs)
      rw [if_pos rfl] at H6
      rcases HA.out with ⟨rfl, hz⟩ | ⟨b1, k, hk, rfl, y0, y1, y2, y3, y4⟩
      · cases hz
        have e0 : ([] : List Vx).length = 0 := rfl
        clear HOLD HNEW HA hCL HYES HVL
        go_enter Tryz.func54, Tryz.ntmps54
        go_wp2_with fail
        go_ret2
        have := put_no (tick := tick) HC.out H6.out (by decide) HBL.out
        exact ⟨congrArg Ending.returned this.1, this.2⟩
      · rw [hk] at c0
        simp only [Vx.sl] at y4
        clear HOLD HNEW HA hCL HYES HVL
        go_enter Tryz.func54, Tryz.ntmps54
        go_wp2_with fail
        go_ret2
        have := put_no (tick := tick) HC.out H6.out (by decide) HBL.out
        exact ⟨congrArg Ending.returned this.1, this.2⟩
    | true =>
      have H6 := hid (HNEW.out hs)
      rw [if_neg (by simp)] at H6
      rcases HA.out with ⟨rfl, hz⟩ | ⟨b1, k, hk, rfl, y0, y1, y2, y3, y4⟩
      · cases hz
      · rw [hk] at c0
        simp only [Vx.sl] at y4
        clear HOLD HNEW HA hCL
        go_enter Tryz.func54, Tryz.ntmps54
        go_wp2_with fail
        obtain ⟨N, hN⟩ : ∃ N, w.heap.size = N := ⟨_, rfl⟩
        obtain ⟨W5, hW5⟩ : ∃ W5, (w.alloc (.cells #[.int .i64 xn, .int .u64 xs, .int .i64 xt, .bool true, .slice xp xo.length xc] 39)).alloc (.cells #[.int .i64 (xn + 1), .int .u64 stamp, .int .i64 tick, .bool false, .slice none 0 0] 39) = W5 := ⟨_, rfl⟩
        have hb5 : Below w.heap.size w W5 := by rw [← hW5]; exact HBL.out.alloc (by simp) _
        have hs5 : W5.heap.size = N + 2 := by rw [← hW5, ← hN]; simp
        have hX5 : VerAt W5 (N + 1) ⟨xn + 1, stamp, tick, false, none, 0, []⟩ := by
          rw [← hW5, ← hN]
          exact heap_alloc2_new w _ _
        have HP := hid (push_at HC.out hb5 hX5 (by omega) hs5)
        obtain ⟨q0, q1, q2, q3, q4'⟩ := HP.out.new
        have q4 : W5.cell? ⟨N + 1, 0 + 4, none⟩ = some (.slice none 0 0) := q4'
        have c5 := HP.out.cell
        have z5 := HP.out.free
        have a5 := HP.out.next
        have hne := HP.out.ne
        rw [hk] at c5 a5
        try rw [hW5]
        try rw [hN]
        clear hX5 hb5 q4'
        go_region_law (first
          | (refine step_putV _ (by rfl) (.tmp 64) (.tmp 66) (by rfl) n0 (.slice (some ⟨b1, 0, none⟩) (k + 1) cap) d (by rfl) (by rw [← hk]; exact HP.out.own _) _ ⟨xn + 1, stamp, tick, false, none, 0, []⟩ (by rfl) (by exact HP.out.lies) hfew (HP.out.big _) ?_; intro b6 cap6 w6 hown6 hg6 hat6; rw [← hk] at hg6 hat6; obtain ⟨g61, g62, g63⟩ := HP.out.then_ _ _ hg6))
        all_goals
          have HH := hid (HYES.out _ w6 b6 cap6 H6.out (HP.out.bel _) hown6 hg6 (hat6.imp id (HP.out.high _ _)))
          rw [hk] at HH
          clear hown6 hg6 hat6
          go_wp2_with fail
          go_ret2
          exact ⟨congrArg Ending.returned HH.out.1, HH.out.2⟩
  · have hs' : stamp ≤ xs := by omega
    have H8 : Hid (putC (d.map Vx.ver) stamp false val = 8) := by
      rcases HOLD.out with h | h
      · exact absurd h hs
      · exact h
    rcases HA.out with ⟨rfl, hz⟩ | ⟨b1, k, hk, rfl, y0, y1, y2, y3, y4⟩
    · cases hz
      have e0 : ([] : List Vx).length = 0 := rfl
      clear HOLD HNEW HA hCL HYES HVL
      go_enter Tryz.func54, Tryz.ntmps54
      go_wp2_with fail
      go_ret2
      have := put_no (tick := tick) HC.out H8.out (by decide) HBL.out
      exact ⟨congrArg Ending.returned this.1, this.2⟩
    · rw [hk] at c0
      simp only [Vx.sl] at y4
      clear HOLD HNEW HA hCL HYES HVL
      go_enter Tryz.func54, Tryz.ntmps54
      go_wp2_with fail
      go_ret2
      have := put_no (tick := tick) HC.out H8.out (by decide) HBL.out
      exact ⟨congrArg Ending.returned this.1, this.2⟩

end Go.Proofs.YticfpkodoghnnaaGreat

/-
  The program's chain (stage 6): Put of a version that is live; Put.
-/
namespace Go.Proofs.YticfpkodoghnnaaGreat
open Go.RowKit

set_option maxHeartbeats 2000000 in
set_option maxRecDepth 100000 in
theorem put_live {n0 : Nat} {w : World} {g : Nat} {d : List Vx} {vs : Value} (hC : PrgC n0 w g d vs) (stamp tick : Int) (v : Value) (e : List Fx) (val : List Fld) (hv : IsXs w v e) (hf : FitX e) (hval : e.map Fx.fld = val) (h0 : 0 ≤ stamp) (htop : (lastV (d.map Vx.ver)).num < 2400000000000) :
    Calls Tryz.prog 54 #[.pointer (some ⟨g, 0, none⟩), .int .u64 stamp, .int .i64 tick, .bool true, v] w fun r w' =>
      r = .returned (.tuple #[.int .i64 (putN (d.map Vx.ver) stamp true val), .int .i64 (putC (d.map Vx.ver) stamp true val)]) ∧ TurnC n0 w g d vs (putL (d.map Vx.ver) stamp tick true val) w' := by
  have HBX : Hid (Below w.heap.size w (w.alloc (.cells #[.int .i64 0, .int .u64 0, .int .i64 0, .bool false, .slice none 0 0] 39))) := (Below.refl _ _).alloc (Nat.le_refl _) _
  have HBL : Hid (Below w.heap.size w (w.alloc (.cells (encVx (lastX d)).toArray 39))) := (Below.refl _ _).alloc (Nat.le_refl _) _
  have HVL : Hid (VerAt (w.alloc (.cells (encVx (lastX d)).toArray 39)) w.heap.size (lastX d)) := heap_alloc_new w _
  have hC1 := hC.on HBX.out
  have hCL := hC.on HBL.out
  have HC := hid hC
  have hfew := hC.few
  obtain ⟨p, cap, rfl⟩ := Kind.own_shape hC.row
  have c0 := hC1.cell
  have cL := hCL.cell
  have zL := hCL.free
  have hge := last_ge hC.ok
  have hls : (lastX d).stamp = (lastV (d.map Vx.ver)).stamp := by rw [← lastX_ver]; rfl
  have hll : (lastX d).live = (lastV (d.map Vx.ver)).live := by rw [← lastX_ver]; rfl
  have hln : (lastX d).num = (lastV (d.map Vx.ver)).num := by rw [← lastX_ver]; rfl
  have hnum0 : 0 ≤ (lastX d).num := by have := ok_len hC.ok; rw [hln]; omega
  have HA := hid (last_at hC1)
  have HOLD : Hid ((lastX d).stamp < stamp ∨ putC (d.map Vx.ver) stamp true val = 8) := by
    rcases Int.lt_or_le (lastX d).stamp stamp with h | h
    · exact Or.inl h
    · exact Or.inr (pc_old (by rw [← hls]; exact h))
  have hntop : (lastX d).num < 2400000000000 := by rw [hln]; exact htop
  have HNEW : Hid ((lastX d).stamp < stamp → putC (d.map Vx.ver) stamp true val = if mayB val = false then 3 else 0) := fun h => by
    rw [pc_at hge (by rw [← hls]; omega)]
    simp
  have HYES : Hid (∀ (W w4 : World) (b c : Nat) (pu : Option Addr) (cu : Nat) (o : List Fx), (putC (d.map Vx.ver) stamp true val = 0 ∧ mayB val = true) → Below w.heap.size w W → OwnJ w.heap.size W (.slice pu o.length cu) o → o.map Fx.fld = val → KV.Own n0 w4 (.slice (some ⟨b, 0, none⟩) (d.length + 1) c) (d ++ [⟨(lastX d).num + 1, stamp, tick, true, pu, cu, o⟩]) → W.grownBy w4 (Value.slice p d.length cap).ownBlock → ((Value.slice p d.length cap).ownBlock = some b ∨ w.heap.size ≤ b) → _) := fun W w4 b c pu cu o hc hb hj hm ho hg hat => put_yes (W := W) (w4 := w4) hC (tick := tick) h0 hc.1 htop hb (pu := pu) (cu := cu) (o := o) hj (by rw [hm]; exact hc.2) hm ho hg hat
  have HMAY := hid (may_any v e _ (hv.kept HBL.out) hf)
  have HCOPY : Hid (mayB val = true → ∀ W, Below w.heap.size w W → Calls Tryz.prog 80 #[v] W fun r w' => ∃ u o, r = .returned u ∧ OwnJ W.heap.size w' u o ∧ o.map Fx.fld = val ∧ Below W.heap.size W w') := fun hm W hW => by
    have := copied_any v e W (hv.kept hW) hf (may_fit (by rw [hval]; exact hm)).2
    rw [hval] at this
    exact this
  rw [hval] at HMAY
  clear hC1 hC hls hll hln hge htop hval hf
  obtain ⟨vp, vc, rfl, _⟩ := hv
  obtain ⟨L, hL⟩ : ∃ L, lastX d = L := ⟨_, rfl⟩
  rw [hL] at HBL HA HOLD HNEW HYES HMAY hnum0 hntop cL zL HVL
  clear hL
  obtain ⟨xn, xs, xt, xl, xp, xc, xo⟩ := L
  simp only [encVx, Vx.sl] at HBL HA HOLD HNEW HYES HMAY hnum0 hntop cL zL HVL
  by_cases hs : xs < stamp
  · have hs' : ¬ stamp ≤ xs := by omega
    cases hmay : mayB val with
    | false =>
      have H3 := hid (HNEW.out hs)
      rw [if_pos hmay] at H3
      rw [hmay] at HMAY
      rcases HA.out with ⟨rfl, hz⟩ | ⟨b1, k, hk, rfl, y0, y1, y2, y3, y4⟩
      · cases hz
        have e0 : ([] : List Vx).length = 0 := rfl
        clear HOLD HNEW HA hCL HYES HCOPY hmay
        go_enter Tryz.func54, Tryz.ntmps54
        go_wp2_with fail
        refine HMAY.out.mono ?_
        rintro r w2 ⟨rfl, hg2⟩
        have HB2 := hid (bel_then HBL.out HBL.out.size hg2.below)
        clear hg2 HMAY
        go_wp2_with fail
        go_ret2
        have := put_no (tick := tick) HC.out H3.out (by decide) HB2.out
        exact ⟨congrArg Ending.returned this.1, this.2⟩
      · rw [hk] at c0
        simp only [Vx.sl] at y4
        clear HOLD HNEW HA hCL HYES HCOPY hmay
        go_enter Tryz.func54, Tryz.ntmps54
        go_wp2_with fail
        refine HMAY.out.mono ?_
        rintro r w2 ⟨rfl, hg2⟩
        have HB2 := hid (bel_then HBL.out HBL.out.size hg2.below)
        clear hg2 HMAY
        go_wp2_with fail
        go_ret2
        have := put_no (tick := tick) HC.out H3.out (by decide) HB2.out
        exact ⟨congrArg Ending.returned this.1, this.2⟩
    | true =>
      have H3 : Hid (putC (d.map Vx.ver) stamp true val = 0 ∧ mayB val = true) := by
        have := HNEW.out hs
        rw [if_neg (by rw [hmay]; simp)] at this
        exact ⟨this, hmay⟩
      have HCOPY := hid (HCOPY.out hmay)
      rw [hmay] at HMAY
      rcases HA.out with ⟨hd, hz⟩ | ⟨b1, k, hk, rfl, y0, y1, y2, y3, y4⟩
      · cases hz
        have hk : d.length = 0 := by rw [hd]; rfl
        simp only [Int.zero_add] at HYES
        · rw [hk] at c0
          clear HOLD HNEW HA hCL hmay hd
          go_enter Tryz.func54, Tryz.ntmps54
          go_wp2_with fail
          refine HMAY.out.mono ?_
          rintro r w2 ⟨rfl, hg2⟩
          have hb2 := hg2.below
          have hBL2 := bel_then HBL.out HBL.out.size hb2
          obtain ⟨l0, l1, l2, l3, l4⟩ := (HVL.out.on hb2).cells
          simp only [Nat.zero_add] at l1 l2 l3 l4
          obtain ⟨M, hM⟩ : ∃ M, w2.heap.size = M := ⟨_, rfl⟩
          have hNM : w.heap.size ≤ M := by have := hBL2.size; omega
          have HB3 : Hid (Below w.heap.size w (w2.alloc (.cells #[.int .i64 1, .int .u64 stamp, .int .i64 tick, .bool true, .slice none 0 0] 39))) := hBL2.alloc hBL2.size _
          have HCP := hid (HCOPY.out _ HB3.out)
          have HX3 : Hid (VerAt (w2.alloc (.cells #[.int .i64 1, .int .u64 stamp, .int .i64 tick, .bool true, .slice none 0 0] 39)) M ⟨1, stamp, tick, true, none, 0, []⟩) := by
            rw [← hM]; exact heap_alloc_new w2 _
          have hs3 : (w2.alloc (.cells #[.int .i64 1, .int .u64 stamp, .int .i64 tick, .bool true, .slice none 0 0] 39)).heap.size = M + 1 := by simp [hM]
          clear hg2 hb2 hBL2 HMAY HCOPY
          go_wp2_with fail
          refine HCP.out.mono ?_
          rintro r w4 ⟨u, o, rfl, hJ, hmo, hb4⟩
          obtain ⟨pu, cu, rfl⟩ := ownJ_slice hJ
          have hX4 := HX3.out.on hb4
          obtain ⟨m0, m1, m2, m3, m4'⟩ := hX4.cells
          have m4 : w4.cell? ⟨M, 4, none⟩ = some (.slice none 0 0) := by simpa [Vx.sl] using m4'
          simp only [Nat.zero_add] at m1 m2 m3
          have f4 := hX4.free 4
          obtain ⟨W5, hW5⟩ : ∃ W5, w4.setCell ⟨M, 4, none⟩ (.slice pu o.length cu) = W5 := ⟨_, rfl⟩
          obtain ⟨S5, hS5⟩ : ∃ S5, W5.heap.size = S5 := ⟨_, rfl⟩
          have hb34 : Below w.heap.size w w4 := bel_then HB3.out HB3.out.size hb4
          have hb5 : Below w.heap.size w W5 := by rw [← hW5]; exact hb34.setCell hNM _
          have hX5 : VerAt W5 M ⟨1, stamp, tick, true, pu, cu, o⟩ := by
            rw [← hW5]
            exact heap_setCell_same w4 M 4 _ _ _ hX4
          have hJ4 : OwnJ (M + 1) w4 (.slice pu o.length cu) o := own_weakJ hJ (by omega)
          have HJ5 : Hid (OwnJ w.heap.size W5 (.slice pu o.length cu) o) := by
            rw [← hW5]
            exact own_weakJ (ownJ_set hJ4 (by omega) _) (by omega)
          have HMO := hid hmo
          have HP := hid (push_at HC.out hb5 hX5 hNM hS5)
          obtain ⟨q0, q1, q2, q3, q4'⟩ := HP.out.new
          have q4 : W5.cell? ⟨M, 0 + 4, none⟩ = some (.slice pu o.length cu) := q4'
          have c5 := HP.out.cell
          have z5 := HP.out.free
          have a5 := HP.out.next
          have hne := HP.out.ne
          rw [hk] at c5 a5
          clear hX5 hb5 q4' hX4 hJ hJ4 hmo hb4 hb34 HX3 HCP m4' l0 l1 l2 l3 l4
          go_upto_region 16 with fail
          try rw [hW5]
          clear hW5 m0 m1 m2 m3 m4 f4
          go_region_law (first
            | (refine step_putV _ (by rfl) (.tmp 64) (.tmp 66) (by rfl) n0 (.slice p (0) cap) d (by rfl) (by rw [← hk]; exact HP.out.own _) _ ⟨1, stamp, tick, true, pu, cu, o⟩ (by rfl) (by exact HP.out.lies) hfew (HP.out.big _) ?_; intro b6 cap6 w6 hown6 hg6 hat6; rw [← hk] at hg6 hat6; obtain ⟨g61, g62, g63⟩ := HP.out.then_ _ _ hg6))
          all_goals
            have HH := hid (HYES.out _ w6 b6 cap6 pu cu o H3.out (HP.out.bel _) (HJ5.out.on (bel_drewN ((Below.refl _ _).alloc (Nat.le_refl _) _) 1)) HMO.out hown6 hg6 (hat6.imp id (HP.out.high _ _)))
            rw [hk] at HH
            clear hown6 hg6 hat6
            go_wp2_with fail
            go_ret2
            exact ⟨congrArg Ending.returned HH.out.1, HH.out.2⟩
      · rw [hk] at c0
        simp only [Vx.sl] at y4
        · clear HOLD HNEW HA hCL hmay
          go_enter Tryz.func54, Tryz.ntmps54
          go_wp2_with fail
          refine HMAY.out.mono ?_
          rintro r w2 ⟨rfl, hg2⟩
          have hb2 := hg2.below
          have hBL2 := bel_then HBL.out HBL.out.size hb2
          obtain ⟨l0, l1, l2, l3, l4⟩ := (HVL.out.on hb2).cells
          simp only [Nat.zero_add] at l1 l2 l3 l4
          obtain ⟨M, hM⟩ : ∃ M, w2.heap.size = M := ⟨_, rfl⟩
          have hNM : w.heap.size ≤ M := by have := hBL2.size; omega
          have HB3 : Hid (Below w.heap.size w (w2.alloc (.cells #[.int .i64 (xn + 1), .int .u64 stamp, .int .i64 tick, .bool true, .slice none 0 0] 39))) := hBL2.alloc hBL2.size _
          have HCP := hid (HCOPY.out _ HB3.out)
          have HX3 : Hid (VerAt (w2.alloc (.cells #[.int .i64 (xn + 1), .int .u64 stamp, .int .i64 tick, .bool true, .slice none 0 0] 39)) M ⟨xn + 1, stamp, tick, true, none, 0, []⟩) := by
            rw [← hM]; exact heap_alloc_new w2 _
          have hs3 : (w2.alloc (.cells #[.int .i64 (xn + 1), .int .u64 stamp, .int .i64 tick, .bool true, .slice none 0 0] 39)).heap.size = M + 1 := by simp [hM]
          clear hg2 hb2 hBL2 HMAY HCOPY
          go_wp2_with fail
          refine HCP.out.mono ?_
          rintro r w4 ⟨u, o, rfl, hJ, hmo, hb4⟩
          obtain ⟨pu, cu, rfl⟩ := ownJ_slice hJ
          have hX4 := HX3.out.on hb4
          obtain ⟨m0, m1, m2, m3, m4'⟩ := hX4.cells
          have m4 : w4.cell? ⟨M, 4, none⟩ = some (.slice none 0 0) := by simpa [Vx.sl] using m4'
          simp only [Nat.zero_add] at m1 m2 m3
          have f4 := hX4.free 4
          obtain ⟨W5, hW5⟩ : ∃ W5, w4.setCell ⟨M, 4, none⟩ (.slice pu o.length cu) = W5 := ⟨_, rfl⟩
          obtain ⟨S5, hS5⟩ : ∃ S5, W5.heap.size = S5 := ⟨_, rfl⟩
          have hb34 : Below w.heap.size w w4 := bel_then HB3.out HB3.out.size hb4
          have hb5 : Below w.heap.size w W5 := by rw [← hW5]; exact hb34.setCell hNM _
          have hX5 : VerAt W5 M ⟨xn + 1, stamp, tick, true, pu, cu, o⟩ := by
            rw [← hW5]
            exact heap_setCell_same w4 M 4 _ _ _ hX4
          have hJ4 : OwnJ (M + 1) w4 (.slice pu o.length cu) o := own_weakJ hJ (by omega)
          have HJ5 : Hid (OwnJ w.heap.size W5 (.slice pu o.length cu) o) := by
            rw [← hW5]
            exact own_weakJ (ownJ_set hJ4 (by omega) _) (by omega)
          have HMO := hid hmo
          have HP := hid (push_at HC.out hb5 hX5 hNM hS5)
          obtain ⟨q0, q1, q2, q3, q4'⟩ := HP.out.new
          have q4 : W5.cell? ⟨M, 0 + 4, none⟩ = some (.slice pu o.length cu) := q4'
          have c5 := HP.out.cell
          have z5 := HP.out.free
          have a5 := HP.out.next
          have hne := HP.out.ne
          rw [hk] at c5 a5
          clear hX5 hb5 q4' hX4 hJ hJ4 hmo hb4 hb34 HX3 HCP m4' l0 l1 l2 l3 l4
          go_upto_region 16 with fail
          try rw [hW5]
          clear hW5 m0 m1 m2 m3 m4 f4
          go_region_law (first
            | (refine step_putV _ (by rfl) (.tmp 64) (.tmp 66) (by rfl) n0 (.slice (some ⟨b1, 0, none⟩) (k + 1) cap) d (by rfl) (by rw [← hk]; exact HP.out.own _) _ ⟨xn + 1, stamp, tick, true, pu, cu, o⟩ (by rfl) (by exact HP.out.lies) hfew (HP.out.big _) ?_; intro b6 cap6 w6 hown6 hg6 hat6; rw [← hk] at hg6 hat6; obtain ⟨g61, g62, g63⟩ := HP.out.then_ _ _ hg6))
          all_goals
            have HH := hid (HYES.out _ w6 b6 cap6 pu cu o H3.out (HP.out.bel _) (HJ5.out.on (bel_drewN ((Below.refl _ _).alloc (Nat.le_refl _) _) 1)) HMO.out hown6 hg6 (hat6.imp id (HP.out.high _ _)))
            rw [hk] at HH
            clear hown6 hg6 hat6
            go_wp2_with fail
            go_ret2
            exact ⟨congrArg Ending.returned HH.out.1, HH.out.2⟩
  · have hs' : stamp ≤ xs := by omega
    have H8 : Hid (putC (d.map Vx.ver) stamp true val = 8) := by
      rcases HOLD.out with h | h
      · exact absurd h hs
      · exact h
    rcases HA.out with ⟨rfl, hz⟩ | ⟨b1, k, hk, rfl, y0, y1, y2, y3, y4⟩
    · cases hz
      have e0 : ([] : List Vx).length = 0 := rfl
      clear HOLD HNEW HA hCL HYES HVL HMAY HCOPY
      go_enter Tryz.func54, Tryz.ntmps54
      go_wp2_with fail
      go_ret2
      have := put_no (tick := tick) HC.out H8.out (by decide) HBL.out
      exact ⟨congrArg Ending.returned this.1, this.2⟩
    · rw [hk] at c0
      simp only [Vx.sl] at y4
      clear HOLD HNEW HA hCL HYES HVL HMAY HCOPY
      go_enter Tryz.func54, Tryz.ntmps54
      go_wp2_with fail
      go_ret2
      have := put_no (tick := tick) HC.out H8.out (by decide) HBL.out
      exact ⟨congrArg Ending.returned this.1, this.2⟩

theorem put_any {n0 : Nat} {w : World} {g : Nat} {d : List Vx} {vs : Value} (hC : PrgC n0 w g d vs) (stamp tick : Int) (live : Bool) (v : Value) (e : List Fx) (val : List Fld) (hv : IsXs w v e) (hf : FitX e) (hval : e.map Fx.fld = val) (h0 : 0 ≤ stamp) (htop : (lastV (d.map Vx.ver)).num < 2400000000000) :
    Calls Tryz.prog 54 #[.pointer (some ⟨g, 0, none⟩), .int .u64 stamp, .int .i64 tick, .bool live, v] w fun r w' =>
      r = .returned (.tuple #[.int .i64 (putN (d.map Vx.ver) stamp live val), .int .i64 (putC (d.map Vx.ver) stamp live val)]) ∧ TurnC n0 w g d vs (putL (d.map Vx.ver) stamp tick live val) w' := by
  cases live
  · exact put_dead hC stamp tick v val h0 htop
  · exact put_live hC stamp tick v e val hv hf hval h0 htop

end Go.Proofs.YticfpkodoghnnaaGreat

/-
  The laws of stage 6: operations in memory, and the chain that a script lays.
-/
namespace Go.Proofs.YticfpkodoghnnaaGreat
open Go.RowKit

/-- An operation as it lies in memory. -/
structure Ox where
  kind : Int
  stamp : Int
  tick : Int
  live : Bool
  p : Option Addr
  cap : Nat
  o : List Fx
  n : Int
  deriving Inhabited

def Ox.sl (x : Ox) : Value := .slice x.p x.o.length x.cap
def Ox.val (x : Ox) : List Fld := x.o.map Fx.fld
def encO (x : Ox) : List Value := [.int .i64 x.kind, .int .u64 x.stamp, .int .i64 x.tick, .bool x.live, x.sl, .int .i64 x.n]
structure OpAt (w : World) (x : Ox) : Prop where
  is : IsXs w x.sl x.o
  fit : FitX x.o
  lo : 0 ≤ x.stamp
  hi : x.stamp ≤ 18446744073709551615
  n63 : x.n ≤ 9223372036854775807
  copy : CopyX x.o

theorem OpAt.on {w W : World} {x : Ox} (h : OpAt w x) (hb : Below w.heap.size w W) : OpAt W x := ⟨h.is.kept hb, h.fit, h.lo, h.hi, h.n63, h.copy⟩

/-- What a script lays. -/
def stepV (l : List Vr) (x : Ox) : List Vr := if x.kind = 8 then pruneV l x.stamp else putL l x.stamp x.tick x.live x.val
def laidV (ops : List Ox) : List Vr := ops.foldl stepV []

theorem laidV_snoc (ops : List Ox) (x : Ox) : laidV (ops ++ [x]) = stepV (laidV ops) x := by unfold laidV; rw [List.foldl_append]; rfl

theorem last_prune (l : List Vr) (f : Int) : lastV (pruneV l f) = lastV l := by
  unfold lastV
  rw [prune_last]

theorem put_num (l : List Vr) (stamp tick : Int) (live : Bool) (val : List Fld) : (lastV (putL l stamp tick live val)).num ≤ (lastV l).num + 1 := by
  unfold putL
  split
  · unfold putV
    rw [lastV_snoc]
    exact Int.le_refl _
  · omega

/-- A chain that is being laid. -/
structure LaidIn (w : World) (g : Nat) (ops : List Ox) (d : List Vx) (vs : Value) (W : World) : Prop where
  prg : PrgC w.heap.size W g d vs
  ver : d.map Vx.ver = laidV ops
  num : (lastV (laidV ops)).num ≤ ops.length
  bel : Below w.heap.size w W

theorem LaidIn.alloc {w W W2 : World} {g : Nat} {ops : List Ox} {d : List Vx} {vs : Value} (h : LaidIn w g ops d vs W) (hb : Below W.heap.size W W2) : LaidIn w g ops d vs W2 :=
  ⟨h.prg.on hb, h.ver, h.num, bel_then h.bel h.bel.size hb⟩

theorem LaidIn.step {w W W2 : World} {g : Nat} {ops : List Ox} {d : List Vx} {vs : Value} (h : LaidIn w g ops d vs W) (x : Ox) (ht : TurnC w.heap.size W g d vs (stepV (d.map Vx.ver) x) W2) : ∃ d' vs', LaidIn w g (ops ++ [x]) d' vs' W2 := by
  obtain ⟨d', vs', h1, h2, _, h4⟩ := ht
  refine ⟨d', vs', h1, by rw [h2, laidV_snoc, h.ver], ?_, ?_⟩
  · rw [laidV_snoc, List.length_append]
    have hn := h.num
    unfold stepV
    split
    · rw [last_prune]; simp; omega
    · have := put_num (laidV ops) x.stamp x.tick x.live x.val
      simp only [List.length_singleton]
      omega
  · exact h.bel.trans (h4.below h.bel.size fun k hk => (h.prg.blk k hk).1)

/-- What laid answers. -/
def LaidPost (w : World) (ops : List Ox) (e : Ending) (w' : World) : Prop := ∃ g d vs, e = .returned (.pointer (some ⟨g, 0, none⟩)) ∧ LaidIn w g ops d vs w'

end Go.Proofs.YticfpkodoghnnaaGreat

/-
  The program's chain (stage 6), by its versions alone.
-/
namespace Go.Proofs.YticfpkodoghnnaaGreat
open Go.RowKit

/-- A chain in block g, all of it from n0 on, whose versions are l. -/
def ChSt (n0 g : Nat) (l : List Vr) (W : World) : Prop := ∃ d vs, PrgC n0 W g d vs ∧ d.map Vx.ver = l

theorem ChSt.on {n0 g : Nat} {l : List Vr} {W W2 : World} (h : ChSt n0 g l W) (hb : Below W.heap.size W W2) : ChSt n0 g l W2 := by
  obtain ⟨d, vs, h1, h2⟩ := h
  exact ⟨d, vs, h1.on hb, h2⟩

theorem ChSt.far {n0 n1 g : Nat} {l : List Vr} {W W2 : World} (h : ChSt n0 g l W) (hb : Below n1 W W2) (hn : W.heap.size ≤ n1) : ChSt n0 g l W2 := h.on (hb.mono hn)

/-- What lies below n1 stays where only blocks from n1 on turn. -/
theorem ChSt.below {n0 n1 g : Nat} {l : List Vr} {W0 W W2 : World} (h : ChSt n0 g l W0) (hs : W0.heap.size ≤ n1) (h0 : Below W0.heap.size W0 W) (hb : Below n1 W W2) : ChSt n0 g l W2 := h.on (h0.trans (hb.mono hs))

theorem ChSt.ok {n0 g : Nat} {l : List Vr} {W : World} (h : ChSt n0 g l W) : OkV l := by
  obtain ⟨d, vs, h1, rfl⟩ := h
  exact h1.ok
theorem ChSt.top {n0 g : Nat} {l : List Vr} {W : World} (h : ChSt n0 g l W) : (lastV l).num ≤ 2400000000000 := by
  obtain ⟨d, vs, h1, rfl⟩ := h
  exact h1.top
theorem ChSt.few {n0 g : Nat} {l : List Vr} {W : World} (h : ChSt n0 g l W) : l.length ≤ 2400000000000 := by
  obtain ⟨d, vs, h1, rfl⟩ := h
  rw [List.length_map]
  exact h1.few
theorem ChSt.may {n0 g : Nat} {l : List Vr} {W : World} (h : ChSt n0 g l W) : ∀ v ∈ l, mayB v.val = true := by
  obtain ⟨d, vs, h1, rfl⟩ := h
  intro v hv
  obtain ⟨x, hx, rfl⟩ := List.mem_map.1 hv
  exact (h1.each x hx).2
theorem ChSt.base {n0 g : Nat} {l : List Vr} {W : World} (h : ChSt n0 g l W) : n0 ≤ W.heap.size := by
  obtain ⟨d, vs, h1, _⟩ := h
  have := cell_block h1.cell
  have h2 := h1.base
  have : g < W.heap.size := this
  omega

theorem turn_st {n0 g : Nat} {d : List Vx} {vs : Value} {l : List Vr} {W w' : World} (h : PrgC n0 W g d vs) (ht : TurnC n0 W g d vs l w') : ChSt n0 g l w' ∧ Below n0 W w' := by
  obtain ⟨d', vs', h1, h2, _, h4⟩ := ht
  refine ⟨⟨d', vs', h1, h2⟩, h4.below ?_ fun k hk => (h.blk k hk).1⟩
  have h5 : g < W.heap.size := cell_block h.cell
  have h6 := h.base
  omega

theorem st_new (w : World) : Calls Tryz.prog 53 #[] w fun e w' => e = .returned (.pointer (some ⟨w.heap.size, 0, none⟩)) ∧ ChSt w.heap.size w.heap.size [] w' ∧ Below w.heap.size w w' := by
  refine (new_any w).mono ?_
  rintro e w' ⟨h1, h2, h3⟩
  exact ⟨h1, ⟨_, _, h2, rfl⟩, h3⟩

theorem st_put {n0 g : Nat} {l : List Vr} {W : World} (h : ChSt n0 g l W) (stamp tick : Int) (live : Bool) (v : Value) (e : List Fx) (val : List Fld) (hv : IsXs W v e) (hf : FitX e) (hval : e.map Fx.fld = val) (h0 : 0 ≤ stamp) (htop : (lastV l).num < 2400000000000) :
    Calls Tryz.prog 54 #[.pointer (some ⟨g, 0, none⟩), .int .u64 stamp, .int .i64 tick, .bool live, v] W fun r w' =>
      r = .returned (.tuple #[.int .i64 (putN l stamp live val), .int .i64 (putC l stamp live val)]) ∧ ChSt n0 g (putL l stamp tick live val) w' ∧ Below n0 W w' := by
  obtain ⟨d, vs, h1, rfl⟩ := h
  refine (put_any h1 stamp tick live v e val hv hf hval h0 htop).mono ?_
  rintro r w' ⟨h2, h3⟩
  exact ⟨h2, turn_st h1 h3⟩

theorem st_prune {n0 g : Nat} {l : List Vr} {W : World} (h : ChSt n0 g l W) (f : Int) :
    Calls Tryz.prog 56 #[.pointer (some ⟨g, 0, none⟩), .int .u64 f] W fun r w' => r = .returned (.int .i64 (pruneN l f : Nat)) ∧ ChSt n0 g (pruneV l f) w' ∧ Below n0 W w' := by
  obtain ⟨d, vs, h1, rfl⟩ := h
  refine (prune_any h1 f).mono ?_
  rintro r w' ⟨h2, h3⟩
  exact ⟨h2, turn_st h1 h3⟩

theorem st_at {n0 g : Nat} {l : List Vr} {W : World} (h : ChSt n0 g l W) (t : Int) : Calls Tryz.prog 61 #[.pointer (some ⟨g, 0, none⟩), .int .u64 t] W fun e w' => VAns W (atV l t) e w' := by
  obtain ⟨d, vs, h1, rfl⟩ := h
  exact at_any h1 t
theorem st_number {n0 g : Nat} {l : List Vr} {W : World} (h : ChSt n0 g l W) (n : Int) (hn : n ≤ 9223372036854775807) : Calls Tryz.prog 73 #[.pointer (some ⟨g, 0, none⟩), .int .i64 n] W fun e w' => VAns W (numV l n) e w' := by
  obtain ⟨d, vs, h1, rfl⟩ := h
  exact number_any h1 n hn
theorem st_last {n0 g : Nat} {l : List Vr} {W : World} (h : ChSt n0 g l W) : Calls Tryz.prog 74 #[.pointer (some ⟨g, 0, none⟩)] W fun e w' => VAns W l.getLast? e w' := by
  obtain ⟨d, vs, h1, rfl⟩ := h
  exact last_any h1
theorem st_since {n0 g : Nat} {l : List Vr} {W : World} (h : ChSt n0 g l W) (t : Int) : Calls Tryz.prog 68 #[.pointer (some ⟨g, 0, none⟩), .int .u64 t] W fun e w' => AllPost W (sinceV l t) e w' := by
  obtain ⟨d, vs, h1, rfl⟩ := h
  exact since_any h1 t
theorem st_len {n0 g : Nat} {l : List Vr} {W : World} (h : ChSt n0 g l W) : Calls Tryz.prog 75 #[.pointer (some ⟨g, 0, none⟩)] W fun e w' => e = .returned (.int .i64 (l.length : Int)) ∧ w' = W := by
  obtain ⟨d, vs, h1, rfl⟩ := h
  rw [List.length_map]
  exact len_any h1

/-- A list of versions that was told. -/
structure Told (N : Nat) (u : Value) (o : List Vx) (l : List Vr) (W : World) : Prop where
  own : KV.Own N W u o
  each : ∀ x ∈ o, OwnJ N W x.sl x.o
  apart : ApartV o
  ver : o.map Vx.ver = l

theorem all_told {w : World} {l : List Vr} {e : Ending} {w' : World} (h : AllPost w l e w') : ∃ u o, e = .returned u ∧ Told w.heap.size u o l w' ∧ Below w.heap.size w w' := by
  obtain ⟨u, o, h1, h2, h3, h4, h5, h6⟩ := h
  exact ⟨u, o, h1, ⟨h2, h3, h4, h5⟩, h6⟩

theorem Told.on {N : Nat} {u : Value} {o : List Vx} {l : List Vr} {W W2 : World} (h : Told N u o l W) (hb : Below W.heap.size W W2) : Told N u o l W2 :=
  ⟨Kind.own_on h.own hb, fun x hx => (h.each x hx).on hb, h.apart, h.ver⟩

theorem Told.len {N : Nat} {u : Value} {o : List Vx} {l : List Vr} {W : World} (h : Told N u o l W) : o.length = l.length := by
  have := congrArg List.length h.ver
  simpa using this

theorem Told.fits {N : Nat} {u : Value} {o : List Vx} {l : List Vr} {W : World} (h : Told N u o l W) (hm : ∀ v ∈ l, mayB v.val = true) : ∀ x ∈ o, x.at W ∧ FitX x.o := fun x hx => by
  have h1 : x.ver ∈ l := by rw [← h.ver]; exact List.mem_map.2 ⟨x, hx, rfl⟩
  exact ⟨(h.each x hx).1.is, (may_fit (hm _ h1)).1⟩

theorem vans_fit {o : Option Vr} {x : Vx} (hx : x.ver = o.getD zeroV) (hm : ∀ v, o = some v → mayB v.val = true) : FitX x.o := by
  have h : mayB (x.o.map Fx.fld) = true := by
    have e : x.o.map Fx.fld = (o.getD zeroV).val := by rw [← hx]; rfl
    rw [e]
    cases o with
    | none => exact may_nil
    | some v => exact hm v rfl
  exact (may_fit h).1

theorem at_mem {l : List Vr} {t : Int} {v : Vr} (h : atV l t = some v) : v ∈ l := by
  unfold atV at h
  split at h
  · cases h
  · exact List.mem_of_getElem? h
theorem num_mem {l : List Vr} {n : Int} {v : Vr} (h : numV l n = some v) : v ∈ l := List.mem_of_find?_eq_some h
theorem since_mem {l : List Vr} {t : Int} {v : Vr} (h : v ∈ sinceV l t) : v ∈ l := List.mem_of_mem_drop h

end Go.Proofs.YticfpkodoghnnaaGreat

/-
  A nil chain (stage 7): its answers are those of an empty one.
-/
namespace Go.Proofs.YticfpkodoghnnaaGreat
open Go.RowKit

theorem versions_no (w : World) : Calls Tryz.prog 82 #[.pointer none] w fun e w' => e = .returned (.slice none 0 0) ∧ w' = w := by
  go_enter Tryz.func82, Tryz.ntmps82
  go_wp2_with fail
  go_ret
  exact ⟨rfl, rfl⟩

theorem through_no (t : Int) (w : World) : Calls Tryz.prog 81 #[.slice none 0 0, .int .u64 t] w fun e w' => e = .returned (.int .i64 0) ∧ Below w.heap.size w w' :=
  through_any (.slice none 0 0) [] t w (KV.is_nil w) List.Pairwise.nil (Nat.zero_le _)

theorem told_no (place : Int) (w : World) : Calls Tryz.prog 88 #[.slice none 0 0, .int .i64 place] w fun e w' => VAns w none e w' := by
  have := told_any (.slice none 0 0) [] place w (KV.is_nil w) (fun x hx => by simp at hx) (Nat.zero_le _)
  have e : getV (([] : List Vx).map Vx.ver) place = none := by unfold getV; split <;> simp
  rw [e] at this
  exact this

theorem toldAll_no (w : World) : Calls Tryz.prog 94 #[.slice none 0 0] w fun e w' => AllPost w [] e w' :=
  toldAll_any (.slice none 0 0) [] w (KV.is_nil w) (fun x hx => by simp at hx) (Nat.zero_le _)

theorem no_len (w : World) : Calls Tryz.prog 75 #[.pointer none] w fun e w' => e = .returned (.int .i64 0) ∧ w' = w := by
  have HV := hid (versions_no w)
  go_enter Tryz.func75, Tryz.ntmps75
  go_wp2_with fail
  refine HV.out.mono ?_
  rintro e w1 ⟨rfl, rfl⟩
  go_wp2_with fail
  go_ret
  exact ⟨rfl, rfl⟩

theorem no_since (t : Int) (w : World) : Calls Tryz.prog 68 #[.pointer none, .int .u64 t] w fun e w' => AllPost w [] e w' := by
  have HV := hid (versions_no w)
  have HTH := hid (through_no t w)
  go_enter Tryz.func68, Tryz.ntmps68
  go_wp2_with fail
  refine HV.out.mono ?_
  rintro e w1 ⟨rfl, rfl⟩
  go_wp2_with fail
  refine HTH.out.mono ?_
  rintro e w2 ⟨rfl, hb2⟩
  have HT := hid (toldAll_no w2)
  have HB2 := hid hb2
  clear hb2
  go_wp2_with fail
  refine HT.out.mono ?_
  rintro e w3 ⟨u, o, rfl, h1, h2, h3, h4, h5⟩
  have hs2 := HB2.out.size
  have hp3 : AllPost w1 [] (.returned u) w3 := ⟨u, o, rfl, Kind.own_weak h1 hs2, fun x hx => own_weakJ (h2 x hx) hs2, h3, h4, bel_then HB2.out hs2 h5⟩
  obtain ⟨p, c, rfl⟩ := Kind.own_shape h1
  have HP := hid hp3
  clear hp3 h1 h2 h3 h4 h5
  go_wp2_with fail
  go_ret
  exact HP.out

set_option maxHeartbeats 1000000 in
set_option maxRecDepth 100000 in
theorem no_at (t : Int) (w : World) : Calls Tryz.prog 61 #[.pointer none, .int .u64 t] w fun e w' => VAns w none e w' := by
  have HBX : Hid (Below w.heap.size w (w.alloc (.cells #[.int .i64 0, .int .u64 0, .int .i64 0, .bool false, .slice none 0 0] 39))) := (Below.refl _ _).alloc (Nat.le_refl _) _
  have HZ := hid (zero_new w)
  obtain ⟨W1, hW1⟩ : ∃ W1, w.alloc (.cells #[.int .i64 0, .int .u64 0, .int .i64 0, .bool false, .slice none 0 0] 39) = W1 := ⟨_, rfl⟩
  rw [hW1] at HBX HZ
  have HV := hid (versions_no W1)
  have HTH := hid (through_no t W1)
  obtain ⟨N, hN⟩ : ∃ N, w.heap.size = N := ⟨_, rfl⟩
  rw [hN] at HZ HBX
  have hs1 : N + 1 ≤ W1.heap.size := by rw [← hW1, ← hN]; simp
  go_enter Tryz.func61, Tryz.ntmps61
  go_wp2_with fail
  try rw [hW1]
  refine HV.out.mono ?_
  rintro e w1 ⟨rfl, rfl⟩
  go_wp2_with fail
  refine HTH.out.mono ?_
  rintro e w2 ⟨rfl, hb2⟩
  have HTO := hid (told_no (-1) w2)
  have HB2 := hid hb2
  have hs2 := hb2.size
  clear hb2 HTH HV
  go_wp2_with fail
  refine HTO.out.mono ?_
  rintro e w3 ⟨x, rfl, hx, hJ, hq3⟩
  have HX := hid hx
  have HJ := hid (own_weakJ hJ (M := N + 1) (by omega))
  have hZ3 := (HZ.out.on HB2.out).on hq3
  obtain ⟨q0, q1, q2, q3, q4⟩ := hZ3.cells
  have r0 := hZ3.free 0
  have r1 := hZ3.free 1
  have r2 := hZ3.free 2
  have r3 := hZ3.free 3
  have r4 := hZ3.free 4
  have HB3 : Hid (Below N w w3) := bel_then (bel_then HBX.out (by omega) HB2.out) (by omega) hq3
  obtain ⟨xn, xs, xt, xl, xp, xc, xo⟩ := x
  simp only [encVx, Vx.sl] at HJ ⊢
  clear hx hJ hq3 hZ3 HTO HZ HBX HB2
  try simp only [hN]
  go_wp2_with fail
  exact bodyPost_ret (v := .tuple #[.agg #[.int .i64 xn, .int .u64 xs, .int .i64 xt, .bool xl, .slice xp xo.length xc], .bool false]) (by simp [results, Tryz.results61, go_sem, q0, q1, q2, q3, q4]) rfl
    ⟨⟨xn, xs, xt, xl, xp, xc, xo⟩, rfl, HX.out, by
      rw [hN]
      refine own_weakJ (N := N + 1) ?_ (by omega)
      exact ownJ_set (ownJ_set (ownJ_set (ownJ_set (ownJ_set HJ.out (by omega) _) (by omega) _) (by omega) _) (by omega) _) (by omega) _, by
      rw [hN]
      exact ((((HB3.out.setCell (Nat.le_refl _) _).setCell (Nat.le_refl _) _).setCell (Nat.le_refl _) _).setCell (Nat.le_refl _) _).setCell (Nat.le_refl _) _⟩

set_option maxHeartbeats 1000000 in
set_option maxRecDepth 100000 in
theorem no_last (w : World) : Calls Tryz.prog 74 #[.pointer none] w fun e w' => VAns w none e w' := by
  have HBX : Hid (Below w.heap.size w (w.alloc (.cells #[.int .i64 0, .int .u64 0, .int .i64 0, .bool false, .slice none 0 0] 39))) := (Below.refl _ _).alloc (Nat.le_refl _) _
  have HZ := hid (zero_new w)
  obtain ⟨W1, hW1⟩ : ∃ W1, w.alloc (.cells #[.int .i64 0, .int .u64 0, .int .i64 0, .bool false, .slice none 0 0] 39) = W1 := ⟨_, rfl⟩
  rw [hW1] at HBX HZ
  have HV := hid (versions_no W1)
  have HTO := hid (told_no (-1) W1)
  obtain ⟨N, hN⟩ : ∃ N, w.heap.size = N := ⟨_, rfl⟩
  rw [hN] at HZ HBX
  have hs1 : N + 1 ≤ W1.heap.size := by rw [← hW1, ← hN]; simp
  go_enter Tryz.func74, Tryz.ntmps74
  go_wp2_with fail
  try rw [hW1]
  refine HV.out.mono ?_
  rintro e w1 ⟨rfl, rfl⟩
  go_wp2_with fail
  refine HTO.out.mono ?_
  rintro e w3 ⟨x, rfl, hx, hJ, hq3⟩
  have HX := hid hx
  have HJ := hid (own_weakJ hJ (M := N + 1) (by omega))
  have hZ3 := HZ.out.on hq3
  obtain ⟨q0, q1, q2, q3, q4⟩ := hZ3.cells
  have r0 := hZ3.free 0
  have r1 := hZ3.free 1
  have r2 := hZ3.free 2
  have r3 := hZ3.free 3
  have r4 := hZ3.free 4
  have HB3 : Hid (Below N w w3) := bel_then HBX.out (by omega) hq3
  obtain ⟨xn, xs, xt, xl, xp, xc, xo⟩ := x
  simp only [encVx, Vx.sl] at HJ ⊢
  clear hx hJ hq3 hZ3 HTO HZ HBX
  try simp only [hN]
  go_wp2_with fail
  exact bodyPost_ret (v := .tuple #[.agg #[.int .i64 xn, .int .u64 xs, .int .i64 xt, .bool xl, .slice xp xo.length xc], .bool false]) (by simp [results, Tryz.results74, go_sem, q0, q1, q2, q3, q4]) rfl
    ⟨⟨xn, xs, xt, xl, xp, xc, xo⟩, rfl, HX.out, by
      rw [hN]
      refine own_weakJ (N := N + 1) ?_ (by omega)
      exact ownJ_set (ownJ_set (ownJ_set (ownJ_set (ownJ_set HJ.out (by omega) _) (by omega) _) (by omega) _) (by omega) _) (by omega) _, by
      rw [hN]
      exact ((((HB3.out.setCell (Nat.le_refl _) _).setCell (Nat.le_refl _) _).setCell (Nat.le_refl _) _).setCell (Nat.le_refl _) _).setCell (Nat.le_refl _) _⟩

set_option maxHeartbeats 1000000 in
set_option maxRecDepth 100000 in
theorem no_number (n : Int) (w : World) : Calls Tryz.prog 73 #[.pointer none, .int .i64 n] w fun e w' => VAns w none e w' := by
  have HBX : Hid (Below w.heap.size w (w.alloc (.cells #[.int .i64 0, .int .u64 0, .int .i64 0, .bool false, .slice none 0 0] 39))) := (Below.refl _ _).alloc (Nat.le_refl _) _
  have HV := hid (versions_no (w.alloc (.cells #[.int .i64 0, .int .u64 0, .int .i64 0, .bool false, .slice none 0 0] 39)))
  go_enter Tryz.func73, Tryz.ntmps73
  go_wp2_with fail
  refine HV.out.mono ?_
  rintro e w1 ⟨rfl, rfl⟩
  go_wp2_with fail
  exact bodyPost_ret (v := .tuple #[.agg #[.int .i64 0, .int .u64 0, .int .i64 0, .bool false, .slice none 0 0], .bool false]) (by simp [results, Tryz.results73, go_sem]) rfl
    ⟨zeroVx, rfl, rfl, own_noneX _ _, by
      first
      | exact (Below.refl _ _).alloc (Nat.le_refl _) _
      | exact (((((HBX.out.setCell (Nat.le_refl _) _).setCell (Nat.le_refl _) _).setCell (Nat.le_refl _) _).setCell (Nat.le_refl _) _).setCell (Nat.le_refl _) _)⟩

end Go.Proofs.YticfpkodoghnnaaGreat

/-
  The contracts of Type, ID and Temp of package name.
-/
namespace Go.Proofs.YticfpkodoghnnaaGreat
open Go.RowKit

set_option maxHeartbeats 1000000 in
theorem id_any (n : Int) (w : World) : Calls Tryz.prog 103 #[.int .u8 n] w fun e w' => e = .returned (.bool (idB n)) ∧ w' = w := by
  go_enter Tryz.func103, Tryz.ntmps103
  go_wp2
  all_goals go_ret
  all_goals refine ⟨ret_bool ?_, rfl⟩
  all_goals (rw [Bool.eq_iff_iff]; simp_all [idB, lodB, digB, letB, bigB, smallB]; try omega)

set_option maxHeartbeats 1000000 in
theorem spelled_type (s : ByteArray) (w : World) (hs : s.size ≤ maxLen) :
    Calls Tryz.prog 100 #[.string s, .func (.func 101) #[] #[], .func (.func 102) #[] #[]] w fun e w' => e = .returned (.bool (typeB s.data.toList)) ∧ w' = w := by
  unfold maxLen at hs
  by_cases he : s.size = 0
  · have hb := spell_empty bigB letB s he
    have hlt : (s.size : Int) < 1 := by omega
    have HB : Hid (spell bigB letB s.data.toList = false) := hb
    clear he hb
    go_enter Tryz.func100, Tryz.ntmps100
    go_wp2_with fail
    go_ret
    exact ⟨ret_bool HB.out.symm, rfl⟩
  have hpos : 0 < s.size := by omega
  have hnl : ¬ (s.size : Int) < 1 := by omega
  by_cases hl : 32 < s.size
  · have hb := spell_long bigB letB s hl
    have HB : Hid (spell bigB letB s.data.toList = false) := hb
    have hgt : (32 : Int) < (s.size : Int) := by omega
    clear he hb
    go_enter Tryz.func100, Tryz.ntmps100
    go_wp2_with fail
    go_ret
    exact ⟨ret_bool HB.out.symm, rfl⟩
  have hle : ¬ (32 : Int) < (s.size : Int) := by omega
  clear he
  cases hc : bigB (s[0].toNat : Int) with
  | false =>
    have HB : Hid (spell bigB letB s.data.toList = false) := spell_first bigB letB s hpos hc
    go_enter Tryz.func100, Tryz.ntmps100
    go_wp2_with (go_at_call 101; refine (big_any _ _).mono ?_; rintro e w' ⟨rfl, rfl⟩)
    go_ret
    exact ⟨ret_bool HB.out.symm, rfl⟩
  | true =>
    have HT : Hid ((∀ k, 1 ≤ k → (hk : k < s.size) → letB (s[k].toNat : Int) = true) → spell bigB letB s.data.toList = true) := spell_true bigB letB s hpos (by omega) hc
    have HA : Hid (∀ k, 1 ≤ k → (hk : k < s.size) → letB (s[k].toNat : Int) = false → spell bigB letB s.data.toList = false) := fun k h1 hk => spell_at bigB letB s k h1 hk
    go_enter Tryz.func100, Tryz.ntmps100
    go_wp2_with (go_at_call 101; refine (big_any _ _).mono ?_; rintro e w' ⟨rfl, rfl⟩)
    go_loop [7] (fun i => ∃ k : Nat, 1 ≤ k ∧ k ≤ s.size ∧ i = .int .i64 k ∧ (∀ j, 1 ≤ j → j < k → (hj : j < s.size) → letB (s[j].toNat : Int) = true)) (fun i => s.size - (intOf i).toNat)
    case atStart => exact ⟨1, by omega, by omega, rfl, fun j h1 h2 => by omega⟩
    case round =>
      obtain ⟨k, hk1, hk, rfl, hall⟩ := hrel
      have HL : Hid (∀ j, 1 ≤ j → j < k → (hj : j < s.size) → letB (s[j].toNat : Int) = true) := hall
      clear hall
      by_cases hlt : k < s.size
      · cases hd : letB (s[k].toNat : Int) with
        | false =>
          go_wp2_with (go_at_call 102; refine (letter_any _ _).mono ?_; rintro e w' ⟨rfl, rfl⟩)
          go_ret
          exact ⟨ret_bool (HA.out k hk1 hlt hd).symm, rfl⟩
        | true =>
          go_wp2_with (go_at_call 102; refine (letter_any _ _).mono ?_; rintro e w' ⟨rfl, rfl⟩)
          go_round
          case rel =>
            refine ⟨k + 1, by omega, by omega, by go_num, fun j h1 h2 hj => ?_⟩
            by_cases hjk : j = k
            · subst hjk; exact hd
            · exact HL.out j h1 (by omega) hj
          case measure => simp [intOf]; omega
      · go_wp2_with fail
        go_ret
        exact ⟨ret_bool (HT.out fun j h1 hj => HL.out j h1 (by omega) hj).symm, rfl⟩

set_option maxHeartbeats 1000000 in
theorem type_any (s : ByteArray) (w : World) (hs : s.size ≤ maxLen) :
    Calls Tryz.prog 77 #[.string s] w fun e w' => e = .returned (.bool (typeB s.data.toList)) ∧ w' = w := by
  go_enter Tryz.func77, Tryz.ntmps77
  go_wp2_with (go_at_call 100; refine (spelled_type _ _ hs).mono ?_; rintro e w' ⟨rfl, rfl⟩)
  go_ret
  exact ⟨rfl, rfl⟩

set_option maxHeartbeats 1000000 in
theorem spelled_iden (s : ByteArray) (w : World) (hs : s.size ≤ maxLen) :
    Calls Tryz.prog 100 #[.string s, .func (.func 103) #[] #[], .func (.func 103) #[] #[]] w fun e w' => e = .returned (.bool (idenB s.data.toList)) ∧ w' = w := by
  unfold maxLen at hs
  by_cases he : s.size = 0
  · have hb := spell_empty idB idB s he
    have hlt : (s.size : Int) < 1 := by omega
    have HB : Hid (spell idB idB s.data.toList = false) := hb
    clear he hb
    go_enter Tryz.func100, Tryz.ntmps100
    go_wp2_with fail
    go_ret
    exact ⟨ret_bool HB.out.symm, rfl⟩
  have hpos : 0 < s.size := by omega
  have hnl : ¬ (s.size : Int) < 1 := by omega
  by_cases hl : 32 < s.size
  · have hb := spell_long idB idB s hl
    have HB : Hid (spell idB idB s.data.toList = false) := hb
    have hgt : (32 : Int) < (s.size : Int) := by omega
    clear he hb
    go_enter Tryz.func100, Tryz.ntmps100
    go_wp2_with fail
    go_ret
    exact ⟨ret_bool HB.out.symm, rfl⟩
  have hle : ¬ (32 : Int) < (s.size : Int) := by omega
  clear he
  cases hc : idB (s[0].toNat : Int) with
  | false =>
    have HB : Hid (spell idB idB s.data.toList = false) := spell_first idB idB s hpos hc
    go_enter Tryz.func100, Tryz.ntmps100
    go_wp2_with (go_at_call 103; refine (id_any _ _).mono ?_; rintro e w' ⟨rfl, rfl⟩)
    go_ret
    exact ⟨ret_bool HB.out.symm, rfl⟩
  | true =>
    have HT : Hid ((∀ k, 1 ≤ k → (hk : k < s.size) → idB (s[k].toNat : Int) = true) → spell idB idB s.data.toList = true) := spell_true idB idB s hpos (by omega) hc
    have HA : Hid (∀ k, 1 ≤ k → (hk : k < s.size) → idB (s[k].toNat : Int) = false → spell idB idB s.data.toList = false) := fun k h1 hk => spell_at idB idB s k h1 hk
    go_enter Tryz.func100, Tryz.ntmps100
    go_wp2_with (go_at_call 103; refine (id_any _ _).mono ?_; rintro e w' ⟨rfl, rfl⟩)
    go_loop [7] (fun i => ∃ k : Nat, 1 ≤ k ∧ k ≤ s.size ∧ i = .int .i64 k ∧ (∀ j, 1 ≤ j → j < k → (hj : j < s.size) → idB (s[j].toNat : Int) = true)) (fun i => s.size - (intOf i).toNat)
    case atStart => exact ⟨1, by omega, by omega, rfl, fun j h1 h2 => by omega⟩
    case round =>
      obtain ⟨k, hk1, hk, rfl, hall⟩ := hrel
      have HL : Hid (∀ j, 1 ≤ j → j < k → (hj : j < s.size) → idB (s[j].toNat : Int) = true) := hall
      clear hall
      by_cases hlt : k < s.size
      · cases hd : idB (s[k].toNat : Int) with
        | false =>
          go_wp2_with (go_at_call 103; refine (id_any _ _).mono ?_; rintro e w' ⟨rfl, rfl⟩)
          go_ret
          exact ⟨ret_bool (HA.out k hk1 hlt hd).symm, rfl⟩
        | true =>
          go_wp2_with (go_at_call 103; refine (id_any _ _).mono ?_; rintro e w' ⟨rfl, rfl⟩)
          go_round
          case rel =>
            refine ⟨k + 1, by omega, by omega, by go_num, fun j h1 h2 hj => ?_⟩
            by_cases hjk : j = k
            · subst hjk; exact hd
            · exact HL.out j h1 (by omega) hj
          case measure => simp [intOf]; omega
      · go_wp2_with fail
        go_ret
        exact ⟨ret_bool (HT.out fun j h1 hj => HL.out j h1 (by omega) hj).symm, rfl⟩

set_option maxHeartbeats 1000000 in
theorem iden_any (s : ByteArray) (w : World) (hs : s.size ≤ maxLen) :
    Calls Tryz.prog 78 #[.string s] w fun e w' => e = .returned (.bool (idenB s.data.toList)) ∧ w' = w := by
  go_enter Tryz.func78, Tryz.ntmps78
  go_wp2_with (go_at_call 100; refine (spelled_iden _ _ hs).mono ?_; rintro e w' ⟨rfl, rfl⟩)
  go_ret
  exact ⟨rfl, rfl⟩

set_option maxHeartbeats 1000000 in
theorem spelled_temp (s : ByteArray) (w : World) (hs : s.size ≤ maxLen) :
    Calls Tryz.prog 100 #[.string s, .func (.func 136) #[] #[], .func (.func 136) #[] #[]] w fun e w' => e = .returned (.bool (tempB s.data.toList)) ∧ w' = w := by
  unfold maxLen at hs
  by_cases he : s.size = 0
  · have hb := spell_empty lodB lodB s he
    have hlt : (s.size : Int) < 1 := by omega
    have HB : Hid (spell lodB lodB s.data.toList = false) := hb
    clear he hb
    go_enter Tryz.func100, Tryz.ntmps100
    go_wp2_with fail
    go_ret
    exact ⟨ret_bool HB.out.symm, rfl⟩
  have hpos : 0 < s.size := by omega
  have hnl : ¬ (s.size : Int) < 1 := by omega
  by_cases hl : 32 < s.size
  · have hb := spell_long lodB lodB s hl
    have HB : Hid (spell lodB lodB s.data.toList = false) := hb
    have hgt : (32 : Int) < (s.size : Int) := by omega
    clear he hb
    go_enter Tryz.func100, Tryz.ntmps100
    go_wp2_with fail
    go_ret
    exact ⟨ret_bool HB.out.symm, rfl⟩
  have hle : ¬ (32 : Int) < (s.size : Int) := by omega
  clear he
  cases hc : lodB (s[0].toNat : Int) with
  | false =>
    have HB : Hid (spell lodB lodB s.data.toList = false) := spell_first lodB lodB s hpos hc
    go_enter Tryz.func100, Tryz.ntmps100
    go_wp2_with (go_at_call 136; refine (lod_any _ _).mono ?_; rintro e w' ⟨rfl, rfl⟩)
    go_ret
    exact ⟨ret_bool HB.out.symm, rfl⟩
  | true =>
    have HT : Hid ((∀ k, 1 ≤ k → (hk : k < s.size) → lodB (s[k].toNat : Int) = true) → spell lodB lodB s.data.toList = true) := spell_true lodB lodB s hpos (by omega) hc
    have HA : Hid (∀ k, 1 ≤ k → (hk : k < s.size) → lodB (s[k].toNat : Int) = false → spell lodB lodB s.data.toList = false) := fun k h1 hk => spell_at lodB lodB s k h1 hk
    go_enter Tryz.func100, Tryz.ntmps100
    go_wp2_with (go_at_call 136; refine (lod_any _ _).mono ?_; rintro e w' ⟨rfl, rfl⟩)
    go_loop [7] (fun i => ∃ k : Nat, 1 ≤ k ∧ k ≤ s.size ∧ i = .int .i64 k ∧ (∀ j, 1 ≤ j → j < k → (hj : j < s.size) → lodB (s[j].toNat : Int) = true)) (fun i => s.size - (intOf i).toNat)
    case atStart => exact ⟨1, by omega, by omega, rfl, fun j h1 h2 => by omega⟩
    case round =>
      obtain ⟨k, hk1, hk, rfl, hall⟩ := hrel
      have HL : Hid (∀ j, 1 ≤ j → j < k → (hj : j < s.size) → lodB (s[j].toNat : Int) = true) := hall
      clear hall
      by_cases hlt : k < s.size
      · cases hd : lodB (s[k].toNat : Int) with
        | false =>
          go_wp2_with (go_at_call 136; refine (lod_any _ _).mono ?_; rintro e w' ⟨rfl, rfl⟩)
          go_ret
          exact ⟨ret_bool (HA.out k hk1 hlt hd).symm, rfl⟩
        | true =>
          go_wp2_with (go_at_call 136; refine (lod_any _ _).mono ?_; rintro e w' ⟨rfl, rfl⟩)
          go_round
          case rel =>
            refine ⟨k + 1, by omega, by omega, by go_num, fun j h1 h2 hj => ?_⟩
            by_cases hjk : j = k
            · subst hjk; exact hd
            · exact HL.out j h1 (by omega) hj
          case measure => simp [intOf]; omega
      · go_wp2_with fail
        go_ret
        exact ⟨ret_bool (HT.out fun j h1 hj => HL.out j h1 (by omega) hj).symm, rfl⟩

end Go.Proofs.YticfpkodoghnnaaGreat

/-
  The library's functions at this program's own numbers: the tables that tie each to the contract that the library proves once.
-/
namespace Go.Proofs
open Go.Shelf

end Go.Proofs

/-
  Where a byte first stands in a text, in plain lists.
-/
namespace Go.Proofs.YticfpkodoghnnaaGreat

theorem ix_cases (l : List UInt8) (c : UInt8) :
    (Lib.indexByte l c = -1 ∧ c ∉ l) ∨ ∃ i : Nat, Lib.indexByte l c = (i : Int) ∧ i < l.length ∧ l[i]? = some c ∧ c ∉ l.take i := by
  induction l with
  | nil => left; exact ⟨rfl, by simp⟩
  | cons b l ih =>
    by_cases hb : b = c
    · right
      refine ⟨0, ?_, by simp, by simp [hb], by simp⟩
      unfold Lib.indexByte; simp [hb]
    · have hbc : (b == c) = false := by simp [hb]
      rcases ih with ⟨h1, h2⟩ | ⟨i, h1, h2, h3, h4⟩
      · left
        refine ⟨?_, ?_⟩
        · unfold Lib.indexByte; rw [hbc]; simp [h1]
        · simp only [List.mem_cons, not_or]; exact ⟨fun h => hb h.symm, h2⟩
      · right
        refine ⟨i + 1, ?_, by simp; omega, by simpa using h3, ?_⟩
        · unfold Lib.indexByte; rw [hbc, h1]
          have : ((i : Int) == -1) = false := by rw [beq_eq_false_iff_ne]; omega
          simp [this]
        · simp only [List.take_succ_cons, List.mem_cons, not_or]; exact ⟨fun h => hb h.symm, h4⟩

/-- The split of a text at its first byte c. -/
theorem ix_split (l : List UInt8) (c : UInt8) (i : Nat) (h1 : i < l.length) (h2 : l[i]? = some c) : l = l.take i ++ c :: l.drop (i + 1) := by
  have h3 : l[i] = c := by rw [List.getElem?_eq_getElem h1] at h2; exact Option.some.inj h2
  calc l = l.take i ++ l.drop i := (List.take_append_drop i l).symm
    _ = l.take i ++ c :: l.drop (i + 1) := by rw [List.drop_eq_getElem_cons h1, h3]

theorem ix_uniq {a b a' b' : List UInt8} {c : UInt8} (h : a ++ c :: b = a' ++ c :: b') (ha : c ∉ a) (ha' : c ∉ a') : a = a' ∧ b = b' := by
  induction a generalizing a' with
  | nil =>
    cases a' with
    | nil => simp at h; exact ⟨rfl, h⟩
    | cons x a' => simp at h; simp [h.1] at ha'
  | cons x a ih =>
    cases a' with
    | nil => simp at h; simp [h.1] at ha
    | cons y a' =>
      simp only [List.cons_append, List.cons.injEq] at h
      simp only [List.mem_cons, not_or] at ha ha'
      obtain ⟨e1, e2⟩ := ih h.2 ha.2 ha'.2
      exact ⟨by rw [h.1, e1], e2⟩

theorem ext_head (s : ByteArray) (i : Nat) : (s.extract 0 i).data.toList = s.data.toList.take i := by
  rw [Lib.extract_data]; simp

theorem ext_tail (s : ByteArray) (i : Nat) : (s.extract i s.size).data.toList = s.data.toList.drop i := Lib.extract_to_end s i

end Go.Proofs.YticfpkodoghnnaaGreat

/-
  The contract of strings.Cut at a separator of one byte.
-/
namespace Go.Proofs.YticfpkodoghnnaaGreat
open Go.RowKit



set_option maxHeartbeats 400000 in
theorem cutl_no (s : ByteArray) (c : UInt8) (w : World) (hix : Lib.indexByte s.data.toList c = -1) :
    Calls Tryz.prog 171 #[.string s, .string ⟨#[c]⟩] w fun e w' => e = .returned (.tuple #[.string s, .string ⟨#[]⟩, .bool false]) ∧ w' = w := by
  have HX : Hid (Lib.indexByte s.data.toList c = -1) := hix
  clear hix
  go_enter Tryz.func171, Tryz.ntmps171
  go_wp2_with (go_at_call 172; refine (Tryz.stringslite_Index_one _ _ _).mono ?_; rintro e w' ⟨rfl, rfl⟩; rw [HX.out])
  go_ret3
  exact ⟨rfl, rfl⟩

set_option maxHeartbeats 400000 in
theorem cutl_yes (s : ByteArray) (c : UInt8) (w : World) (i : Nat) (hix : Lib.indexByte s.data.toList c = (i : Int)) (hi : i < s.size) (hs : s.size ≤ maxLen) :
    Calls Tryz.prog 171 #[.string s, .string ⟨#[c]⟩] w fun e w' => e = .returned (.tuple #[.string (s.extract 0 i), .string (s.extract (i + 1) s.size), .bool true]) ∧ ∃ n, w' = w.drewN n := by
  have HX : Hid (Lib.indexByte s.data.toList c = (i : Int)) := hix
  clear hix
  unfold maxLen at hs
  have c1 : (0 : Int) ≤ ↑i := by omega
  have c2 : (↑i : Int) ≤ ↑s.size := by omega
  have c3 : (0 : Int) ≤ ↑i + 1 := by omega
  have c4 : (↑i + 1 : Int) ≤ ↑s.size := by omega
  go_enter Tryz.func171, Tryz.ntmps171
  go_wp2_with (go_at_call 172; refine (Tryz.stringslite_Index_one _ _ _).mono ?_; rintro e w' ⟨rfl, rfl⟩; rw [HX.out])
  go_quiet (fail)
  go_wp2_with fail
  go_ret3
  exact ⟨rfl, _, rfl⟩

set_option maxHeartbeats 400000 in
theorem cut_no (s : ByteArray) (c : UInt8) (w : World) (hix : Lib.indexByte s.data.toList c = -1) :
    Calls Tryz.prog 163 #[.string s, .string ⟨#[c]⟩] w fun e w' => e = .returned (.tuple #[.string s, .string ⟨#[]⟩, .bool false]) ∧ w' = w := by
  have HX : Hid (Lib.indexByte s.data.toList c = -1) := hix
  clear hix
  go_enter Tryz.func163, Tryz.ntmps163
  go_wp2_with (go_at_call 171; refine (cutl_no _ _ _ HX.out).mono ?_; rintro e w' ⟨rfl, rfl⟩)
  go_ret3
  exact ⟨rfl, rfl⟩

set_option maxHeartbeats 400000 in
theorem cut_yes (s : ByteArray) (c : UInt8) (w : World) (i : Nat) (hix : Lib.indexByte s.data.toList c = (i : Int)) (hi : i < s.size) (hs : s.size ≤ maxLen) :
    Calls Tryz.prog 163 #[.string s, .string ⟨#[c]⟩] w fun e w' => e = .returned (.tuple #[.string (s.extract 0 i), .string (s.extract (i + 1) s.size), .bool true]) ∧ ∃ n, w' = w.drewN n := by
  have HX : Hid (Lib.indexByte s.data.toList c = (i : Int)) := hix
  clear hix
  go_enter Tryz.func163, Tryz.ntmps163
  go_wp2_with (go_at_call 171; refine (cutl_yes _ _ _ i HX.out hi hs).mono ?_; rintro e w' ⟨rfl, n, rfl⟩)
  go_ret3
  exact ⟨rfl, n, rfl⟩

end Go.Proofs.YticfpkodoghnnaaGreat

/-
  The contracts of Key, Print and Parse of package name.
-/
namespace Go.Proofs.YticfpkodoghnnaaGreat
open Go.RowKit

def keyB (a b : ByteArray) : Bool := typeB a.data.toList && idenB b.data.toList

theorem bcell {W w1 : World} (hb : Below W.heap.size W w1) : (∀ b o, b < W.heap.size → w1.cell? ⟨b, o, none⟩ = W.cell? ⟨b, o, none⟩) ∧ (∀ b o, b < W.heap.size → w1.frozen? ⟨b, o, none⟩ = W.frozen? ⟨b, o, none⟩) :=
  ⟨fun b o h => hb.cell (p := ⟨b, o, none⟩) h, fun b o h => hb.frozen (p := ⟨b, o, none⟩) h⟩

set_option maxHeartbeats 400000 in
theorem key_any (a b : ByteArray) (w : World) (ha : a.size ≤ maxLen) (hb : b.size ≤ maxLen) :
    Calls Tryz.prog 51 #[.agg #[.string a, .string b]] w fun e w' => e = .returned (.bool (keyB a b)) ∧ Below w.heap.size w w' := by
  have HK : Hid (keyB a b = (typeB a.data.toList && idenB b.data.toList)) := rfl
  cases ht : typeB a.data.toList
  all_goals
    go_enter Tryz.func51, Tryz.ntmps51
    go_wp2_with (first | (go_at_call 77; refine (type_any _ _ ha).mono ?_; rintro e w' ⟨rfl, rfl⟩) | (go_at_call 78; refine (iden_any _ _ hb).mono ?_; rintro e w' ⟨rfl, rfl⟩))
    go_ret
    exact ⟨ret_bool (by rw [HK.out, ht]; rfl), (Below.refl _ _).alloc (Nat.le_refl _) _⟩

theorem typeB_len {l : List UInt8} (h : typeB l = true) : l.length ≤ 32 := by
  cases l with
  | nil => simp
  | cons c r => simp [typeB, spell] at h; simp; omega
theorem idenB_len {l : List UInt8} (h : idenB l = true) : l.length ≤ 32 := by
  cases l with
  | nil => simp
  | cons c r => simp [idenB, spell] at h; simp; omega
theorem idenB_empty : idenB [] = false := rfl

theorem keyB_empty (a : ByteArray) : keyB a ⟨#[]⟩ = false := by
  unfold keyB
  rw [show (⟨#[]⟩ : ByteArray).data.toList = [] from rfl, idenB_empty, Bool.and_false]

theorem ext_size (s : ByteArray) (i j : Nat) (h : s.size ≤ maxLen) : (s.extract i j).size ≤ maxLen := by
  have : (s.extract i j).size ≤ s.size := by simp; omega
  omega

end Go.Proofs.YticfpkodoghnnaaGreat

/-
  A directory of the program in memory (stage 7), and the calls that look a chain up.
-/
namespace Go.Proofs.YticfpkodoghnnaaGreat
open Go.RowKit

/-- A chain in memory. -/
structure Cm where
  g : Nat
  d : List Vx
  vs : Value

def Cm.blk (c : Cm) (b : Nat) : Prop := BlkC c.g c.d c.vs b
/-- The block of a key's chain, if it is there. -/
def fOf (G : Ky → Cm) (D : List RowD) (k : Ky) : Option Nat := if (ofD D k).isEmpty then none else some (G k).g

theorem fOf_none {G : Ky → Cm} {D : List RowD} {k : Ky} (h : ofD D k = []) : fOf G D k = none := by unfold fOf; rw [h]; rfl
theorem fOf_some {G : Ky → Cm} {D : List RowD} {k : Ky} (h : ofD D k ≠ []) : fOf G D k = some (G k).g := by
  unfold fOf
  rw [if_neg]
  rw [List.isEmpty_iff]
  exact h

/-- A directory in block g, its map in block m, all of it from n0 on. -/
structure DirM (n0 : Nat) (W : World) (g m n : Nat) (G : Ky → Cm) (D : List RowD) : Prop where
  cell : W.cell? ⟨g, 0, none⟩ = some (.map (some m))
  bg : n0 ≤ g
  bm : n0 ≤ m
  map : MapD W m n (fOf G D)
  prg : ∀ k, ofD D k ≠ [] → PrgC n0 W (G k).g (G k).d (G k).vs ∧ (G k).d.map Vx.ver = ofD D k
  apart : ∀ k1 k2, ofD D k1 ≠ [] → ofD D k2 ≠ [] → k1 ≠ k2 → ∀ b, (G k1).blk b → ¬ (G k2).blk b
  off : ∀ k, ofD D k ≠ [] → ∀ b, (G k).blk b → b ≠ g ∧ b ≠ m
  ok : OkD D
  key : ∀ k, ofD D k ≠ [] → keyB k.1 k.2 = true
  num : ∀ k, (lastV (ofD D k)).num ≤ n
  few : countD D ≤ n

def BlkD (g m : Nat) (G : Ky → Cm) (D : List RowD) (b : Nat) : Prop := b = g ∨ b = m ∨ ∃ k, ofD D k ≠ [] ∧ (G k).blk b

theorem DirM.ne {n0 : Nat} {W : World} {g m n : Nat} {G : Ky → Cm} {D : List RowD} (h : DirM n0 W g m n G D) : g ≠ m := h.map.off h.cell
theorem DirM.blk {n0 : Nat} {W : World} {g m n : Nat} {G : Ky → Cm} {D : List RowD} (h : DirM n0 W g m n G D) (b : Nat) (hb : BlkD g m G D b) : n0 ≤ b ∧ b < W.heap.size := by
  rcases hb with rfl | rfl | ⟨k, hk, hb⟩
  · exact ⟨h.bg, cell_block h.cell⟩
  · exact ⟨h.bm, h.map.lt⟩
  · exact (h.prg k hk).1.blk b hb

theorem DirM.fr {P : Nat → Prop} {n0 : Nat} {W W' : World} {g m n : Nat} {G : Ky → Cm} {D : List RowD} (h : DirM n0 W g m n G D) (f : Fr P W W') (hP : ∀ b, BlkD g m G D b → ¬ P b) : DirM n0 W' g m n G D :=
  ⟨f.cell h.cell (hP g (Or.inl rfl)), h.bg, h.bm, h.map.on (f.block m h.map.lt (hP m (Or.inr (Or.inl rfl)))), fun k hk => ⟨(h.prg k hk).1.fr f fun b hb => hP b (Or.inr (Or.inr ⟨k, hk, hb⟩)), (h.prg k hk).2⟩, h.apart, h.off, h.ok, h.key, h.num, h.few⟩

theorem DirM.on {n0 : Nat} {W W' : World} {g m n : Nat} {G : Ky → Cm} {D : List RowD} (h : DirM n0 W g m n G D) (hb : Below W.heap.size W W') : DirM n0 W' g m n G D :=
  h.fr (P := fun _ => False) (Fr.of_below hb) fun _ _ hf => hf

theorem DirM.mono {n0 : Nat} {W : World} {g m n n' : Nat} {G : Ky → Cm} {D : List RowD} (h : DirM n0 W g m n G D) (hn : n ≤ n') : DirM n0 W g m n' G D :=
  ⟨h.cell, h.bg, h.bm, h.map.mono hn, h.prg, h.apart, h.off, h.ok, h.key, fun k => by have := h.num k; omega, Nat.le_trans h.few hn⟩

theorem key_small {k : Ky} (h : keyB k.1 k.2 = true) : k.1.size ≤ 32 ∧ k.2.size ≤ 32 := by
  unfold keyB at h
  rw [Bool.and_eq_true] at h
  have h1 := typeB_len h.1
  have h2 := idenB_len h.2
  exact ⟨by simpa using h1, by simpa using h2⟩
theorem key_fit {k : Ky} (h : keyB k.1 k.2 = true) : FitK k := by
  obtain ⟨h1, h2⟩ := key_small h
  unfold FitK maxLen
  omega

/-! ## The chain of a key -/

theorem all_is (g m : Nat) (W : World) (hc : W.cell? ⟨g, 0, none⟩ = some (.map (some m))) :
    Calls Tryz.prog 55 #[.pointer (some ⟨g, 0, none⟩)] W fun e w' => e = .returned (.map (some m)) ∧ w' = W := by
  go_enter Tryz.func55, Tryz.ntmps55
  go_wp2_with fail
  go_ret
  exact ⟨rfl, rfl⟩

set_option maxHeartbeats 2000000 in
set_option maxRecDepth 100000 in
theorem of_is {W : World} {g m n : Nat} {f : Ky → Option Nat} (hc : W.cell? ⟨g, 0, none⟩ = some (.map (some m))) (hM : MapD W m n f) (k : Ky) (hk : FitK k) :
    Calls Tryz.prog 52 #[.pointer (some ⟨g, 0, none⟩), .agg #[.string k.1, .string k.2]] W fun e w' => e = .returned (mkP (f k)) ∧ Below W.heap.size W w' := by
  obtain ⟨V, hV⟩ : ∃ V, W.alloc (.cells #[.string k.1, .string k.2] 31) = V := ⟨_, rfl⟩
  obtain ⟨F, hF⟩ : ∃ F, W.heap.size = F := ⟨_, rfl⟩
  have hbV : Below W.heap.size W V := by rw [← hV]; exact (Below.refl _ _).alloc (Nat.le_refl _) _
  have hnew : V.heap[F]? = some (.cells #[.string k.1, .string k.2] 31 (0, 0)) := by rw [← hV, ← hF]; exact heap_alloc_new W _
  have hFV : F < V.heap.size := (Array.getElem?_eq_some_iff.1 hnew).1
  have hgl : g < W.heap.size := cell_block hc
  have KS : Hid (∀ w' : World, Below V.drew.heap.size V.drew w' → w'.cell? ⟨g, 0, none⟩ = some (.map (some m)) ∧ w'.cell? ⟨F, 0, none⟩ = some (.string k.1) ∧ w'.cell? ⟨F, 1, none⟩ = some (.string k.2) ∧ (Instr.lookup 102 (.map (some m)) (.agg #[.string k.1, .string k.2]) false).run Tryz.prog w' = .ok (mkP (f k)) w') := fun w' h => by
    have h1 : w'.heap[g]? = W.heap[g]? := (h.block g (Nat.lt_of_lt_of_le hgl hbV.size)).trans (hbV.block g hgl)
    have h2 : w'.heap[m]? = W.heap[m]? := (h.block m (Nat.lt_of_lt_of_le hM.lt hbV.size)).trans (hbV.block m hM.lt)
    have h3 : w'.heap[F]? = some (.cells #[.string k.1, .string k.2] 31 (0, 0)) := (h.block F hFV).trans hnew
    refine ⟨(World.cell?_of_block h1).trans hc, by rw [Lib.cell_of_heap h3]; rfl, by rw [Lib.cell_of_heap h3]; rfl, mapD_look (hM.on h2) hk⟩
  have HD : Hid (∀ w' : World, w'.cell? ⟨g, 0, none⟩ = some (.map (some m)) → Calls Tryz.prog 55 #[.pointer (some ⟨g, 0, none⟩)] w' fun e w2 => e = .returned (.map (some m)) ∧ w2 = w') := fun w' h => all_is g m w' h
  obtain ⟨p, hp⟩ : ∃ p, mkP (f k) = Value.pointer p := ⟨_, rfl⟩
  rw [hp] at KS ⊢
  have q0 := KS.out V.drew (Below.refl _ _)
  have HBV := hid hbV
  obtain ⟨ka, kb⟩ := k
  simp only at *
  clear hc hM hk hbV hp hnew hgl
  go_enter Tryz.func52, Tryz.ntmps52
  go_wp2_with fail
  go_region_held3 (fun w' => w'.cell? ⟨g, 0, none⟩ = some (.map (some m)) ∧ w'.cell? ⟨F, 0, none⟩ = some (.string ka) ∧ w'.cell? ⟨F, 1, none⟩ = some (.string kb) ∧ (Instr.lookup 102 (.map (some m)) (.agg #[.string ka, .string kb]) false).run Tryz.prog w' = .ok (.pointer p) w')
    (first | exact q0)
    (first | (go_at_call 55; refine (HD.out _ q0.1).mono ?_; rintro e w5 ⟨rfl, rfl⟩))
  all_goals
    go_wp2_with fail
    go_ret
    rw [← hF]
    exact ⟨rfl, HBV.out.drew⟩

end Go.Proofs.YticfpkodoghnnaaGreat

/-
  The calls of a directory (stage 7) that tell of one key: At, Number, Last, Since, First.
-/
namespace Go.Proofs.YticfpkodoghnnaaGreat
open Go.RowKit

section
variable {n0 : Nat} {W : World} {g m n : Nat} {G : Ky → Cm} {D : List RowD}

theorem chain_at (h : DirM n0 W g m n G D) (k : Ky) (t : Int) : Calls Tryz.prog 61 #[mkP (fOf G D k), .int .u64 t] W fun e w' => VAns W (atV (ofD D k) t) e w' := by
  by_cases e : ofD D k = []
  · rw [fOf_none e, e]
    exact no_at t W
  · rw [fOf_some e, ← (h.prg k e).2]
    exact at_any (h.prg k e).1 t
theorem chain_number (h : DirM n0 W g m n G D) (k : Ky) (i : Int) (hi : i ≤ 9223372036854775807) : Calls Tryz.prog 73 #[mkP (fOf G D k), .int .i64 i] W fun e w' => VAns W (numV (ofD D k) i) e w' := by
  by_cases e : ofD D k = []
  · rw [fOf_none e, e]
    exact no_number i W
  · rw [fOf_some e, ← (h.prg k e).2]
    exact number_any (h.prg k e).1 i hi
theorem chain_last (h : DirM n0 W g m n G D) (k : Ky) : Calls Tryz.prog 74 #[mkP (fOf G D k)] W fun e w' => VAns W (ofD D k).getLast? e w' := by
  by_cases e : ofD D k = []
  · rw [fOf_none e, e]
    exact no_last W
  · rw [fOf_some e, ← (h.prg k e).2]
    exact last_any (h.prg k e).1
theorem chain_since (h : DirM n0 W g m n G D) (k : Ky) (t : Int) : Calls Tryz.prog 68 #[mkP (fOf G D k), .int .u64 t] W fun e w' => AllPost W (sinceV (ofD D k) t) e w' := by
  by_cases e : ofD D k = []
  · rw [fOf_none e, e]
    exact no_since t W
  · rw [fOf_some e, ← (h.prg k e).2]
    exact since_any (h.prg k e).1 t
theorem chain_len (h : DirM n0 W g m n G D) (k : Ky) : Calls Tryz.prog 75 #[mkP (fOf G D k)] W fun e w' => e = .returned (.int .i64 ((ofD D k).length : Int)) ∧ w' = W := by
  by_cases e : ofD D k = []
  · rw [fOf_none e, e]
    exact no_len W
  · rw [fOf_some e, ← (h.prg k e).2, List.length_map]
    exact len_any (h.prg k e).1

theorem DirM.of (h : DirM n0 W g m n G D) (k : Ky) (hk : FitK k) : Calls Tryz.prog 52 #[.pointer (some ⟨g, 0, none⟩), .agg #[.string k.1, .string k.2]] W fun e w' => e = .returned (mkP (fOf G D k)) ∧ Below W.heap.size W w' := of_is h.cell h.map k hk
end

set_option maxHeartbeats 2000000 in
set_option maxRecDepth 100000 in
theorem dat_any {n0 : Nat} {W : World} {g m n : Nat} {G : Ky → Cm} {D : List RowD} (h : DirM n0 W g m n G D) (k : Ky) (hk : FitK k) (t : Int) :
    Calls Tryz.prog 32 #[.pointer (some ⟨g, 0, none⟩), .agg #[.string k.1, .string k.2], .int .u64 t] W fun e w' => VAns W (atV (ofD D k) t) e w' := by
  obtain ⟨N, hN⟩ : ∃ N, W.heap.size = N := ⟨_, rfl⟩
  obtain ⟨W1, hW1⟩ : ∃ W1, W.alloc (.cells #[.string k.1, .string k.2] 31) = W1 := ⟨_, rfl⟩
  have hs1 : W1.heap.size = N + 1 := by rw [← hW1, ← hN]; simp
  have hb1 : Below N W W1 := by rw [← hW1, ← hN]; exact (Below.refl _ _).alloc (Nat.le_refl _) _
  have hk1 : W1.heap[N]? = some (.cells #[.string k.1, .string k.2] 31 (0, 0)) := by rw [← hW1, ← hN]; exact heap_alloc_new W _
  have HZ := hid (zero_new W1)
  obtain ⟨W2, hW2⟩ : ∃ W2, W1.alloc (.cells #[.int .i64 0, .int .u64 0, .int .i64 0, .bool false, .slice none 0 0] 39) = W2 := ⟨_, rfl⟩
  have hb2 : Below (N + 1) W1 W2 := by rw [← hW2, ← hs1]; exact (Below.refl _ _).alloc (Nat.le_refl _) _
  have hs2 : W2.heap.size = N + 2 := by rw [← hW2]; simp; omega
  have hk2 : W2.heap[N]? = some (.cells #[.string k.1, .string k.2] 31 (0, 0)) := (hb2.block N (by omega)).trans hk1
  have hb12 : Below N W W2 := hb1.trans (hb2.mono (by omega))
  rw [hW2, hs1] at HZ
  have hD2 : DirM n0 W2 g m n G D := h.on (by rw [hN]; exact hb12)
  have HO := hid (hD2.of k hk)
  have HA : Hid (∀ w', Below W2.heap.size W2 w' → Calls Tryz.prog 61 #[mkP (fOf G D k), .int .u64 t] w' fun e w2 => VAns w' (atV (ofD D k) t) e w2) := fun w' hb => chain_at (hD2.on hb) k t
  obtain ⟨p, hp⟩ : ∃ p, mkP (fOf G D k) = Value.pointer p := ⟨_, rfl⟩
  rw [hp] at HO HA
  have c0 : W2.cell? ⟨N, 0, none⟩ = some (.string k.1) := by rw [Lib.cell_of_heap hk2]; rfl
  have c1 : W2.cell? ⟨N, 1, none⟩ = some (.string k.2) := by rw [Lib.cell_of_heap hk2]; rfl
  have HB := hid hb12
  obtain ⟨o, ho⟩ : ∃ o, atV (ofD D k) t = o := ⟨_, rfl⟩
  rw [ho] at HA ⊢
  obtain ⟨ka, kb⟩ := k
  simp only at *
  clear hk1 hk2 hb1 hb2 hb12 hD2 hp h hk ho
  go_enter Tryz.func32, Tryz.ntmps32
  go_wp2_with fail
  refine HO.out.mono ?_
  rintro e w3 ⟨rfl, hb3⟩
  have HA3 := hid (HA.out w3 hb3)
  have HB3 := hid hb3
  have hs3 := hb3.size
  clear hb3 HA HO c0 c1
  go_wp2_with fail
  refine HA3.out.mono ?_
  rintro e w4 ⟨x, rfl, hx, hJ, hq⟩
  have hZ3 := (HZ.out.on HB3.out).on hq
  obtain ⟨q0, q1, q2, q3, q4⟩ := hZ3.cells
  have r0 := hZ3.free 0
  have r1 := hZ3.free 1
  have r2 := hZ3.free 2
  have r3 := hZ3.free 3
  have r4 := hZ3.free 4
  have HX := hid hx
  have HJ := hid (own_weakJ hJ (M := N + 2) (by omega))
  have HB4 : Hid (Below N W w4) := bel_then (bel_then HB.out (by omega) HB3.out) (by omega) hq
  obtain ⟨xn, xs, xt, xl, xp, xc, xo⟩ := x
  simp only [encVx, Vx.sl] at HJ ⊢
  clear hx hJ hq hZ3 HA3 HZ HB HB3
  go_wp2_with fail
  exact bodyPost_ret (v := .tuple #[.agg #[.int .i64 xn, .int .u64 xs, .int .i64 xt, .bool xl, .slice xp xo.length xc], .bool o.isSome]) (by simp [results, Tryz.results32, go_sem, q0, q1, q2, q3, q4]) rfl
    ⟨⟨xn, xs, xt, xl, xp, xc, xo⟩, rfl, HX.out, by
      rw [hN]
      refine own_weakJ (N := N + 2) ?_ (by omega)
      exact ownJ_set (ownJ_set (ownJ_set (ownJ_set (ownJ_set HJ.out (by omega) _) (by omega) _) (by omega) _) (by omega) _) (by omega) _, by
      rw [hN]
      exact ((((HB4.out.setCell (by simp) _).setCell (by simp) _).setCell (by simp) _).setCell (by simp) _).setCell (by simp) _⟩

set_option maxHeartbeats 2000000 in
set_option maxRecDepth 100000 in
theorem dnumber_any {n0 : Nat} {W : World} {g m n : Nat} {G : Ky → Cm} {D : List RowD} (h : DirM n0 W g m n G D) (k : Ky) (hk : FitK k) (i : Int) (hi : i ≤ 9223372036854775807) :
    Calls Tryz.prog 47 #[.pointer (some ⟨g, 0, none⟩), .agg #[.string k.1, .string k.2], .int .i64 i] W fun e w' => VAns W (numV (ofD D k) i) e w' := by
  obtain ⟨N, hN⟩ : ∃ N, W.heap.size = N := ⟨_, rfl⟩
  obtain ⟨W1, hW1⟩ : ∃ W1, W.alloc (.cells #[.string k.1, .string k.2] 31) = W1 := ⟨_, rfl⟩
  have hs1 : W1.heap.size = N + 1 := by rw [← hW1, ← hN]; simp
  have hb1 : Below N W W1 := by rw [← hW1, ← hN]; exact (Below.refl _ _).alloc (Nat.le_refl _) _
  have hk1 : W1.heap[N]? = some (.cells #[.string k.1, .string k.2] 31 (0, 0)) := by rw [← hW1, ← hN]; exact heap_alloc_new W _
  have HZ := hid (zero_new W1)
  obtain ⟨W2, hW2⟩ : ∃ W2, W1.alloc (.cells #[.int .i64 0, .int .u64 0, .int .i64 0, .bool false, .slice none 0 0] 39) = W2 := ⟨_, rfl⟩
  have hb2 : Below (N + 1) W1 W2 := by rw [← hW2, ← hs1]; exact (Below.refl _ _).alloc (Nat.le_refl _) _
  have hs2 : W2.heap.size = N + 2 := by rw [← hW2]; simp; omega
  have hk2 : W2.heap[N]? = some (.cells #[.string k.1, .string k.2] 31 (0, 0)) := (hb2.block N (by omega)).trans hk1
  have hb12 : Below N W W2 := hb1.trans (hb2.mono (by omega))
  rw [hW2, hs1] at HZ
  have hD2 : DirM n0 W2 g m n G D := h.on (by rw [hN]; exact hb12)
  have HO := hid (hD2.of k hk)
  have HA : Hid (∀ w', Below W2.heap.size W2 w' → Calls Tryz.prog 73 #[mkP (fOf G D k), .int .i64 i] w' fun e w2 => VAns w' (numV (ofD D k) i) e w2) := fun w' hb => chain_number (hD2.on hb) k i hi
  obtain ⟨p, hp⟩ : ∃ p, mkP (fOf G D k) = Value.pointer p := ⟨_, rfl⟩
  rw [hp] at HO HA
  have c0 : W2.cell? ⟨N, 0, none⟩ = some (.string k.1) := by rw [Lib.cell_of_heap hk2]; rfl
  have c1 : W2.cell? ⟨N, 1, none⟩ = some (.string k.2) := by rw [Lib.cell_of_heap hk2]; rfl
  have HB := hid hb12
  obtain ⟨o, ho⟩ : ∃ o, numV (ofD D k) i = o := ⟨_, rfl⟩
  rw [ho] at HA ⊢
  obtain ⟨ka, kb⟩ := k
  simp only at *
  clear hk1 hk2 hb1 hb2 hb12 hD2 hp h hk ho
  go_enter Tryz.func47, Tryz.ntmps47
  go_wp2_with fail
  refine HO.out.mono ?_
  rintro e w3 ⟨rfl, hb3⟩
  have HA3 := hid (HA.out w3 hb3)
  have HB3 := hid hb3
  have hs3 := hb3.size
  clear hb3 HA HO c0 c1
  go_wp2_with fail
  refine HA3.out.mono ?_
  rintro e w4 ⟨x, rfl, hx, hJ, hq⟩
  have hZ3 := (HZ.out.on HB3.out).on hq
  obtain ⟨q0, q1, q2, q3, q4⟩ := hZ3.cells
  have r0 := hZ3.free 0
  have r1 := hZ3.free 1
  have r2 := hZ3.free 2
  have r3 := hZ3.free 3
  have r4 := hZ3.free 4
  have HX := hid hx
  have HJ := hid (own_weakJ hJ (M := N + 2) (by omega))
  have HB4 : Hid (Below N W w4) := bel_then (bel_then HB.out (by omega) HB3.out) (by omega) hq
  obtain ⟨xn, xs, xt, xl, xp, xc, xo⟩ := x
  simp only [encVx, Vx.sl] at HJ ⊢
  clear hx hJ hq hZ3 HA3 HZ HB HB3
  go_wp2_with fail
  exact bodyPost_ret (v := .tuple #[.agg #[.int .i64 xn, .int .u64 xs, .int .i64 xt, .bool xl, .slice xp xo.length xc], .bool o.isSome]) (by simp [results, Tryz.results47, go_sem, q0, q1, q2, q3, q4]) rfl
    ⟨⟨xn, xs, xt, xl, xp, xc, xo⟩, rfl, HX.out, by
      rw [hN]
      refine own_weakJ (N := N + 2) ?_ (by omega)
      exact ownJ_set (ownJ_set (ownJ_set (ownJ_set (ownJ_set HJ.out (by omega) _) (by omega) _) (by omega) _) (by omega) _) (by omega) _, by
      rw [hN]
      exact ((((HB4.out.setCell (by simp) _).setCell (by simp) _).setCell (by simp) _).setCell (by simp) _).setCell (by simp) _⟩

set_option maxHeartbeats 2000000 in
set_option maxRecDepth 100000 in
theorem dsince_any {n0 : Nat} {W : World} {g m n : Nat} {G : Ky → Cm} {D : List RowD} (h : DirM n0 W g m n G D) (k : Ky) (hk : FitK k) (t : Int) :
    Calls Tryz.prog 41 #[.pointer (some ⟨g, 0, none⟩), .agg #[.string k.1, .string k.2], .int .u64 t] W fun e w' => AllPost W (sinceV (ofD D k) t) e w' := by
  obtain ⟨N, hN⟩ : ∃ N, W.heap.size = N := ⟨_, rfl⟩
  obtain ⟨W1, hW1⟩ : ∃ W1, W.alloc (.cells #[.string k.1, .string k.2] 31) = W1 := ⟨_, rfl⟩
  have hs1 : W1.heap.size = N + 1 := by rw [← hW1, ← hN]; simp
  have hb1 : Below N W W1 := by rw [← hW1, ← hN]; exact (Below.refl _ _).alloc (Nat.le_refl _) _
  have hk1 : W1.heap[N]? = some (.cells #[.string k.1, .string k.2] 31 (0, 0)) := by rw [← hW1, ← hN]; exact heap_alloc_new W _
  have hD1 : DirM n0 W1 g m n G D := h.on (by rw [hN]; exact hb1)
  have HO := hid (hD1.of k hk)
  have HA : Hid (∀ w', Below W1.heap.size W1 w' → Calls Tryz.prog 68 #[mkP (fOf G D k), .int .u64 t] w' fun e w2 => AllPost w' (sinceV (ofD D k) t) e w2) := fun w' hb => chain_since (hD1.on hb) k t
  obtain ⟨p, hp⟩ : ∃ p, mkP (fOf G D k) = Value.pointer p := ⟨_, rfl⟩
  rw [hp] at HO HA
  have c0 : W1.cell? ⟨N, 0, none⟩ = some (.string k.1) := by rw [Lib.cell_of_heap hk1]; rfl
  have c1 : W1.cell? ⟨N, 1, none⟩ = some (.string k.2) := by rw [Lib.cell_of_heap hk1]; rfl
  have HB := hid hb1
  obtain ⟨l, hl⟩ : ∃ l, sinceV (ofD D k) t = l := ⟨_, rfl⟩
  rw [hl] at HA ⊢
  obtain ⟨ka, kb⟩ := k
  simp only at *
  clear hk1 hb1 hD1 hp h hk hl
  go_enter Tryz.func41, Tryz.ntmps41
  go_wp2_with fail
  refine HO.out.mono ?_
  rintro e w3 ⟨rfl, hb3⟩
  have HA3 := hid (HA.out w3 hb3)
  have HB3 := hid hb3
  have hs3 := hb3.size
  clear hb3 HA HO c0 c1
  go_wp2_with fail
  refine HA3.out.mono ?_
  rintro e w4 ⟨u, o, rfl, a1, a2, a3, a4, a5⟩
  have HP : Hid (AllPost W l (.returned u) w4) := ⟨u, o, rfl, Kind.own_weak a1 (by omega), fun x hx => own_weakJ (a2 x hx) (by omega), a3, a4, by rw [hN]; exact bel_then (bel_then HB.out (by omega) HB3.out) (by omega) a5⟩
  obtain ⟨q, c, rfl⟩ := Kind.own_shape a1
  clear a1 a2 a3 a4 a5
  go_wp2_with fail
  go_ret
  exact HP.out

end Go.Proofs.YticfpkodoghnnaaGreat

/-
  The operations of a region that draws its order, taken one by one by hand: what yields a value, what is passed over. No program.
-/

namespace Go.Proofs.YticfpkodoghnnaaGreat


theorem at_drop0 {ops : Array Oper} {i : Nat} {oi : Oper} {rest : List Oper} (h : ops.toList.drop i = oi :: rest) : ops[i]? = some oi := by
  rw [← Array.getElem?_toList, ← List.head?_drop, h]; rfl

section
variable {P : Program} {ops : Array Oper} {Q : Exit → Act → World → Prop} {md : Region.Mode} {S : World → Prop}
/-- Operation number i of a drawn region is taken first: it yields v. -/
theorem take_val {i fuel : Nat} {listed : Array Bool} {a : Act} {w : World} (v : Value) {oi : Oper} {rest : List Oper} (hd : ops.toList.drop i = oi :: rest)
    (hs : Region.noSelect ops = true) (hf : Region.free md ops listed i = true) (hr : (Region.ready md ops listed).contains i = true)
    (hQ : ∀ c a w, Q (.panic c) (a.put oi.dst v) w → Q (.panic c) a w) (hw : Region.wanted oi (yielded ops a.tmps) = true) (hy : ∀ w, S w → (execOp a.eval oi).run P w = .ok (.value v) w) (hS : S w)
    (h : wpAnyH P md ops Q S fuel (listed.setIfInBounds i true) (a.put oi.dst v) w) : wpAnyH P md ops Q S (fuel + 1) listed a w :=
  wpAnyH_take (at_drop0 hd) hs hf hr hQ (Or.inl ⟨hw, hy⟩) hS h
/-- Operation number i of a drawn region is passed over. -/
theorem take_not {i fuel : Nat} {listed : Array Bool} {a : Act} {w : World} {oi : Oper} {rest : List Oper} (hd : ops.toList.drop i = oi :: rest)
    (hs : Region.noSelect ops = true) (hf : Region.free md ops listed i = true) (hr : (Region.ready md ops listed).contains i = true)
    (hQ : ∀ c a w, Q (.panic c) (a.put oi.dst undef) w → Q (.panic c) a w) (hw : Region.wanted oi (yielded ops a.tmps) = false) (hS : S w)
    (h : wpAnyH P md ops Q S fuel (listed.setIfInBounds i true) (a.put oi.dst undef) w) : wpAnyH P md ops Q S (fuel + 1) listed a w :=
  wpAnyH_take (at_drop0 hd) hs hf hr hQ (Or.inr ⟨hw, rfl⟩) hS h
end

end Go.Proofs.YticfpkodoghnnaaGreat

/-
  The words tk_val, tk_not, tk_call, tk_on, tk_end of a drawn region taken by hand (Tak) are written out where a text is laid (inst.py): here are their imports alone.
-/
namespace Go.Proofs.YticfpkodoghnnaaGreat

end Go.Proofs.YticfpkodoghnnaaGreat

/-
  First of a directory (stage 7).
-/
namespace Go.Proofs.YticfpkodoghnnaaGreat
open Go.RowKit

theorem first_num {l : List Vr} (h : OkV l) : numV l ((l.getLast?.getD zeroV).num - (l.length : Int) + 1) = l.head? := by
  cases l with
  | nil => rfl
  | cons v r =>
    have h1 : lastV (v :: r) = (v :: r)[(v :: r).length - 1] := lastV_get (by simp)
    have h2 := ok_num h ((v :: r).length - 1) (by simp)
    have h3 := ok_find h 0 (by simp)
    have h4 : ((v :: r).getLast?.getD zeroV).num - ((v :: r).length : Int) + 1 = v.num := by
      show (lastV (v :: r)).num - _ + 1 = _
      rw [h1, h2]
      simp
      omega
    rw [h4]
    exact h3

theorem last_small {l : List Vr} {n : Nat} (h : (lastV l).num ≤ n) : (l.getLast?.getD zeroV).num ≤ n := h
theorem last_big {l : List Vr} (h : OkV l) : (l.length : Int) ≤ (l.getLast?.getD zeroV).num := ok_len h

theorem cell_sets {w : World} {b B : Nat} {v0 v1 v2 v3 v4 u : Value} {o : Nat} (h : w.cell? ⟨B, o, none⟩ = some u) (hne : B ≠ b) :
    (((((w.setCell ⟨b, 0, none⟩ v0).setCell ⟨b, 1, none⟩ v1).setCell ⟨b, 2, none⟩ v2).setCell ⟨b, 3, none⟩ v3).setCell ⟨b, 4, none⟩ v4).cell? ⟨B, o, none⟩ = some u := by
  rw [World.cell?_of_block (show _ = w.heap[B]? from ?_)]
  · exact h
  · rw [Below.heap_setCell _ _ _ _ hne, Below.heap_setCell _ _ _ _ hne, Below.heap_setCell _ _ _ _ hne, Below.heap_setCell _ _ _ _ hne, Below.heap_setCell _ _ _ _ hne]

set_option maxHeartbeats 4000000 in
set_option maxRecDepth 100000 in
theorem dfirst_any {n0 : Nat} {W : World} {g m n : Nat} {G : Ky → Cm} {D : List RowD} (h : DirM n0 W g m n G D) (hn : n ≤ 2400000000000) (k : Ky) (hk : FitK k) :
    Calls Tryz.prog 48 #[.pointer (some ⟨g, 0, none⟩), .agg #[.string k.1, .string k.2]] W fun e w' => VAns W (ofD D k).head? e w' := by
  obtain ⟨N, hN⟩ : ∃ N, W.heap.size = N := ⟨_, rfl⟩
  obtain ⟨W1, hW1⟩ : ∃ W1, W.alloc (.cells #[.string k.1, .string k.2] 31) = W1 := ⟨_, rfl⟩
  have hs1 : W1.heap.size = N + 1 := by rw [← hW1, ← hN]; simp
  have hb1 : Below N W W1 := by rw [← hW1, ← hN]; exact (Below.refl _ _).alloc (Nat.le_refl _) _
  have hk1 : W1.heap[N]? = some (.cells #[.string k.1, .string k.2] 31 (0, 0)) := by rw [← hW1, ← hN]; exact heap_alloc_new W _
  have HZ := hid (zero_new W1)
  obtain ⟨W2, hW2⟩ : ∃ W2, W1.alloc (.cells #[.int .i64 0, .int .u64 0, .int .i64 0, .bool false, .slice none 0 0] 39) = W2 := ⟨_, rfl⟩
  have hb2 : Below (N + 1) W1 W2 := by rw [← hW2, ← hs1]; exact (Below.refl _ _).alloc (Nat.le_refl _) _
  have hs2 : W2.heap.size = N + 2 := by rw [← hW2]; simp; omega
  have hk2 : W2.heap[N]? = some (.cells #[.string k.1, .string k.2] 31 (0, 0)) := (hb2.block N (by omega)).trans hk1
  have hb12 : Below N W W2 := hb1.trans (hb2.mono (by omega))
  rw [hW2, hs1] at HZ
  have hD2 : DirM n0 W2 g m n G D := h.on (by rw [hN]; exact hb12)
  have HO := hid (hD2.of k hk)
  have HL : Hid (∀ w', Below W2.heap.size W2 w' → Calls Tryz.prog 74 #[mkP (fOf G D k)] w' fun e w2 => VAns w' (ofD D k).getLast? e w2) := fun w' hb => chain_last (hD2.on hb) k
  have HE : Hid (∀ w', Below W2.heap.size W2 w' → Calls Tryz.prog 75 #[mkP (fOf G D k)] w' fun e w2 => e = .returned (.int .i64 ((ofD D k).length : Int)) ∧ w2 = w') := fun w' hb => chain_len (hD2.on hb) k
  have hok := ofD_ok h.ok k
  have hbig := last_big hok
  have hnum := last_small (h.num k)
  have HF := hid (first_num hok)
  have HU : Hid (∀ w', Below W2.heap.size W2 w' → Calls Tryz.prog 73 #[mkP (fOf G D k), .int .i64 (((ofD D k).getLast?.getD zeroV).num - ((ofD D k).length : Int) + 1)] w' fun e w2 => VAns w' (ofD D k).head? e w2) := fun w' hb => by
    rw [← HF.out]
    exact chain_number (hD2.on hb) k _ (by omega)
  obtain ⟨p, hp⟩ : ∃ p, mkP (fOf G D k) = Value.pointer p := ⟨_, rfl⟩
  rw [hp] at HO HL HE HU
  have c0 : W2.cell? ⟨N, 0, none⟩ = some (.string k.1) := by rw [Lib.cell_of_heap hk2]; rfl
  have c1 : W2.cell? ⟨N, 1, none⟩ = some (.string k.2) := by rw [Lib.cell_of_heap hk2]; rfl
  have HB := hid hb12
  obtain ⟨o, ho⟩ : ∃ o, (ofD D k).head? = o := ⟨_, rfl⟩
  obtain ⟨ol, hol⟩ : ∃ ol, (ofD D k).getLast? = ol := ⟨_, rfl⟩
  obtain ⟨len, hlen⟩ : ∃ len : Nat, (ofD D k).length = len := ⟨_, rfl⟩
  rw [ho, hol, hlen] at HU
  rw [hol] at HL hbig hnum
  rw [hlen] at HE hbig
  rw [ho]
  obtain ⟨ka, kb⟩ := k
  simp only at *
  clear hk1 hk2 hb1 hb2 hb12 hD2 hp h hk ho hol hlen HF hok
  go_enter Tryz.func48, Tryz.ntmps48
  go_wp2_with fail
  refine HO.out.mono ?_
  rintro e w3 ⟨rfl, hb3⟩
  have HA3 := hid (HL.out w3 hb3)
  have HB3 := hid hb3
  have hs3 := hb3.size
  clear hb3 HL HO c0 c1
  go_wp2_with fail
  refine HA3.out.mono ?_
  rintro e w4 ⟨x, rfl, hx, _, hq⟩
  have hs4 := hq.size
  have HB4 : Hid (Below W2.heap.size W2 w4) := bel_then HB3.out hs3 hq
  obtain ⟨xn, xs, xt, xl, xp, xc, xo⟩ := x
  have hxn : xn = (ol.getD zeroV).num := by rw [← hx]; rfl
  rw [← hxn] at HU hbig hnum
  simp only [encVx, Vx.sl]
  clear hx hq HA3 HB3 hxn
  obtain ⟨W5, hW5⟩ : ∃ W5, w4.alloc (.cells #[.int .i64 xn, .int .u64 xs, .int .i64 xt, .bool xl, .slice xp xo.length xc] 39) = W5 := ⟨_, rfl⟩
  have hn5 : W5.heap[w4.heap.size]? = some (.cells #[.int .i64 xn, .int .u64 xs, .int .i64 xt, .bool xl, .slice xp xo.length xc] 39 (0, 0)) := by rw [← hW5]; exact heap_alloc_new w4 _
  have hb5 : Below W2.heap.size W2 W5 := by rw [← hW5]; exact HB4.out.alloc (by omega) _
  obtain ⟨N7, hN7⟩ : ∃ N7, w4.heap.size = N7 := ⟨_, rfl⟩
  rw [hN7] at hn5
  have hN7s : N + 2 ≤ N7 := by omega
  have hs5 : N7 < W5.heap.size := (Array.getElem?_eq_some_iff.1 hn5).1
  have KS : Hid (∀ w', Below W5.drew.heap.size W5.drew w' → w'.cell? ⟨N7, 0, none⟩ = some (.int .i64 xn)) := fun w' hb => by
    rw [Lib.cell_of_heap ((hb.block N7 hs5).trans hn5)]; rfl
  have q0 := KS.out W5.drew (Below.refl _ _)
  have hb5d : Below W2.heap.size W2 W5.drew := hb5.drew
  have HLE := hid (HE.out W5.drew hb5d)
  have HNU := hid (HU.out W5.drew hb5d)
  have HZ5 := hid (HZ.out.on hb5d)
  have HB5 : Hid (Below N W W5.drew) := bel_then HB.out (by omega) hb5d
  clear HE HU HZ HB HB4 hb5 hb5d hn5
  go_wp2_with fail
  try rw [hN7]
  try rw [hW5]
  refine wp_region_held_drew (S := fun w' => w'.cell? ⟨N7, 0, none⟩ = some (.int .i64 xn)) (by kernel_rfl) q0 (fun hHeld => ?_)
  refine take_val (i := 0) (.pointer p) rfl (by kernel_rfl) (by kernel_rfl) (by kernel_rfl) (fun _ _ _ h => h) (by rfl) (fun w hSw => by go_simp) hHeld ?_
  simp only [Act.put, List.setIfInBounds_toArray, List.set_cons_zero, List.set_cons_succ]
  refine take_val (i := 1) (.pointer (some ⟨N7, 0, none⟩)) rfl (by kernel_rfl) (by kernel_rfl) (by kernel_rfl) (fun _ _ _ h => h) (by rfl) (fun w hSw => by go_simp) hHeld ?_
  simp only [Act.put, List.setIfInBounds_toArray, List.set_cons_zero, List.set_cons_succ]
  refine take_val (i := 2) (.int .i64 xn) rfl (by kernel_rfl) (by kernel_rfl) (by kernel_rfl) (fun _ _ _ h => h) (by rfl) (fun w hSw => by go_simp) hHeld ?_
  simp only [Act.put, List.setIfInBounds_toArray, List.set_cons_zero, List.set_cons_succ]
  refine take_val (i := 3) (.pointer p) rfl (by kernel_rfl) (by kernel_rfl) (by kernel_rfl) (fun _ _ _ h => h) (by rfl) (fun w hSw => by go_simp) hHeld ?_
  simp only [Act.put, List.setIfInBounds_toArray, List.set_cons_zero, List.set_cons_succ]
  refine wpAnyH_ready (rs := [4]) (by kernel_rfl) (by simp) ?_
  refine AllReadyH.cons (at_drop0 rfl) (fun K hK => ?_) AllReadyH.nil
  rw [if_pos (by rfl)]
  go_simp
  refine HLE.out.mono ?_
  rintro e w5 ⟨rfl, rfl⟩
  go_wp2_with fail
  refine hK.out _ _ q0 (fun hHeld => ?_)
  clear hK K
  try simp only [Act.put, List.setIfInBounds_toArray, List.set_cons_zero, List.set_cons_succ]
  have e1 : IntKind.i64.wrap (xn - (len : Int)) = xn - len := by rw [IntKind.wrap_i64]; omega
  have e2 : IntKind.i64.wrap (xn - (len : Int) + 1) = xn - len + 1 := by rw [IntKind.wrap_i64]; omega
  refine take_val (i := 5) (.int .i64 (xn - len)) rfl (by kernel_rfl) (by kernel_rfl) (by kernel_rfl) (fun _ _ _ h => h) (by rfl) (fun w hSw => by go_simp) hHeld ?_
  simp only [Act.put, List.setIfInBounds_toArray, List.set_cons_zero, List.set_cons_succ]
  refine take_val (i := 6) (.int .i64 (xn - len + 1)) rfl (by kernel_rfl) (by kernel_rfl) (by kernel_rfl) (fun _ _ _ h => h) (by rfl) (fun w hSw => by go_simp) hHeld ?_
  simp only [Act.put, List.setIfInBounds_toArray, List.set_cons_zero, List.set_cons_succ]
  clear e1 e2
  refine wpAnyH_ready (rs := [7]) (by kernel_rfl) (by simp) ?_
  refine AllReadyH.cons (at_drop0 rfl) (fun K hK => ?_) AllReadyH.nil
  rw [if_pos (by rfl)]
  go_simp
  refine HNU.out.mono ?_
  rintro e w6 ⟨y, rfl, hy, hJ, hq6⟩
  have q6 := KS.out w6 hq6
  have hZ6 := HZ5.out.on hq6
  obtain ⟨z0, z1, z2, z3, z4⟩ := hZ6.cells
  have r0 := hZ6.free 0
  have r1 := hZ6.free 1
  have r2 := hZ6.free 2
  have r3 := hZ6.free 3
  have r4 := hZ6.free 4
  have HY := hid hy
  have HJ := hid (own_weakJ hJ (M := N + 2) (by show N + 2 ≤ W5.heap.size; omega))
  have HB6 : Hid (Below N W w6) := bel_then HB5.out (by show N ≤ W5.heap.size; omega) hq6
  obtain ⟨yn, ys, yt, yl, yp, yc, yo⟩ := y
  simp only [encVx, Vx.sl] at HJ ⊢
  have q7 := cell_sets (b := N + 1) (v0 := .int .i64 yn) (v1 := .int .u64 ys) (v2 := .int .i64 yt) (v3 := .bool yl) (v4 := .slice yp yo.length yc) q6 (by omega)
  clear hy hJ hq6 hZ6
  go_wp2_with fail
  refine hK.out _ _ q6 (fun hHeld => ?_)
  clear hK K
  try simp only [Act.put, List.setIfInBounds_toArray, List.set_cons_zero, List.set_cons_succ]
  refine take_val (i := 8) (.agg #[.int .i64 yn, .int .u64 ys, .int .i64 yt, .bool yl, .slice yp yo.length yc]) rfl (by kernel_rfl) (by kernel_rfl) (by kernel_rfl) (fun _ _ _ h => h) (by rfl) (fun w hSw => by go_simp) hHeld ?_
  simp only [Act.put, List.setIfInBounds_toArray, List.set_cons_zero, List.set_cons_succ]
  refine take_val (i := 9) (.bool o.isSome) rfl (by kernel_rfl) (by kernel_rfl) (by kernel_rfl) (fun _ _ _ h => h) (by rfl) (fun w hSw => by go_simp) hHeld ?_
  simp only [Act.put, List.setIfInBounds_toArray, List.set_cons_zero, List.set_cons_succ]
  refine wpAnyH_ready (rs := [10]) (by kernel_rfl) (by simp) ?_
  refine AllReadyH.cons (at_drop0 rfl) (fun K hK => ?_) AllReadyH.nil
  rw [if_pos (by rfl)]
  go_simp
  refine hK.out _ _ q7 (fun hHeld => ?_)
  clear hK K
  try simp only [Act.put, List.setIfInBounds_toArray, List.set_cons_zero, List.set_cons_succ]
  refine take_val (i := 11) (.bool o.isSome) rfl (by kernel_rfl) (by kernel_rfl) (by kernel_rfl) (fun _ _ _ h => h) (by rfl) (fun w hSw => by go_simp) hHeld ?_
  simp only [Act.put, List.setIfInBounds_toArray, List.set_cons_zero, List.set_cons_succ]
  refine wpAnyH_done (by kernel_rfl) ?_ _
  go_wp2_with fail
  exact bodyPost_ret (v := .tuple #[.agg #[.int .i64 yn, .int .u64 ys, .int .i64 yt, .bool yl, .slice yp yo.length yc], .bool o.isSome]) (by simp [results, Tryz.results48, go_sem, z0, z1, z2, z3, z4]) rfl
    ⟨⟨yn, ys, yt, yl, yp, yc, yo⟩, rfl, HY.out, by
      rw [hN]
      refine own_weakJ (N := N + 2) ?_ (by omega)
      exact ownJ_set (ownJ_set (ownJ_set (ownJ_set (ownJ_set HJ.out (by omega) _) (by omega) _) (by omega) _) (by omega) _) (by omega) _, by
      rw [hN]
      exact ((((HB6.out.setCell (by simp) _).setCell (by simp) _).setCell (by simp) _).setCell (by simp) _).setCell (by simp) _⟩

end Go.Proofs.YticfpkodoghnnaaGreat

/-
  A directory (stage 7) of which one chain has turned.
-/
namespace Go.Proofs.YticfpkodoghnnaaGreat
open Go.RowKit

theorem PrgC.weak {n0 n1 : Nat} {w : World} {g : Nat} {d : List Vx} {vs : Value} (h : PrgC n0 w g d vs) (hn : n1 ≤ n0) : PrgC n1 w g d vs :=
  ⟨h.cell, h.free, Nat.le_trans hn h.base, Kind.own_weak h.row hn, fun x hx => ⟨own_weakJ (h.each x hx).1 hn, (h.each x hx).2⟩, h.off, h.ok, h.top⟩

/-- What a call that turns a directory leaves. -/
def TurnD (n0 : Nat) (W : World) (g m : Nat) (G : Ky → Cm) (D : List RowD) (n' : Nat) (D' : List RowD) (w' : World) : Prop :=
  ∃ G', DirM n0 w' g m n' G' D' ∧ (∀ b, BlkD g m G' D' b → BlkD g m G D b ∨ W.heap.size ≤ b) ∧ Fr (BlkD g m G D) W w'

theorem TurnD.same {n0 : Nat} {W w' : World} {g m n n' : Nat} {G : Ky → Cm} {D : List RowD} (h : DirM n0 W g m n G D) (hb : Below W.heap.size W w') (hn : n ≤ n') : TurnD n0 W g m G D n' D w' :=
  ⟨G, (h.on hb).mono hn, fun _ hb => Or.inl hb, Fr.of_below hb⟩

theorem setD_id {k : Ky} : ∀ {D : List RowD}, OkD D → ofD D k ≠ [] → setD k (ofD D k) D = D
  | [], _, h => absurd rfl h
  | r :: d, ho, h => by
    have hr := ho.rise
    rw [List.map_cons] at hr
    unfold setD
    by_cases e : r.1 = k
    · have e2 : ofD (r :: d) k = r.2 := by unfold ofD; rw [if_pos e]
      rw [if_neg (by rw [← e, totK.irr]; simp), if_pos e, e2, ← e]
    · have e2 : ofD (r :: d) k = ofD d k := by conv => lhs; unfold ofD; rw [if_neg e]
      rw [e2] at h ⊢
      have hm : k ∈ d.map Prod.fst := (there_iff ho.tail k).2 h
      have hlt : ltKy r.1 k = true := (List.pairwise_cons.1 hr).1 k hm
      rw [if_neg, if_neg e, setD_id ho.tail h]
      intro hc
      have := totK.tr _ _ _ hlt hc
      rw [totK.irr] at this
      cases this

/-- One chain, of a key that is there or of a new one, has turned, and the map with it. -/
theorem dirM_set {n0 : Nat} {w3 w4 w5 : World} {g m n n' : Nat} {G : Ky → Cm} {D : List RowD} (h : DirM n0 w3 g m n G D) (k : Ky) (c0 : Cm)
    (hc : (ofD D k ≠ [] ∧ c0 = G k) ∨ (ofD D k = [] ∧ ∀ b, c0.blk b → ¬ BlkD g m G D b)) {l' : List Vr} (ht : TurnC n0 w3 c0.g c0.d c0.vs l' w4) (f5 : Fr (fun b => b = m) w4 w5)
    (hm : MapD w5 m n' (fun y => if y = k then some c0.g else fOf G D y)) (hl : l' ≠ []) (hk : keyB k.1 k.2 = true) (hok : OkV l') (hnum : (lastV l').num ≤ n') (hfew : countD (setD k l' D) ≤ n') (hn : n ≤ n') :
    ∃ G', DirM n0 w5 g m n' G' (setD k l' D) ∧ (∀ b, BlkD g m G' (setD k l' D) b → BlkD g m G D b ∨ c0.blk b ∨ w3.heap.size ≤ b) ∧ Fr (fun b => b = m ∨ c0.blk b) w3 w5 := by
  obtain ⟨d', vs', hp, hv, hblk, f4⟩ := ht
  have hml := h.map.lt
  have hgl := cell_block h.cell
  have hgl : g < w3.heap.size := hgl
  -- the chain's old blocks are neither the directory's own nor of another key
  have hold : ∀ b, c0.blk b → b ≠ g ∧ b ≠ m ∧ ∀ y, y ≠ k → ofD D y ≠ [] → ¬ (G y).blk b := by
    intro b hb
    rcases hc with ⟨h1, rfl⟩ | ⟨h1, h2⟩
    · exact ⟨(h.off k h1 b hb).1, (h.off k h1 b hb).2, fun y hy h3 => h.apart k y h1 h3 (Ne.symm hy) b hb⟩
    · have := h2 b hb
      exact ⟨fun e => this (Or.inl e), fun e => this (Or.inr (Or.inl e)), fun y _ h3 h4 => this (Or.inr (Or.inr ⟨y, h3, h4⟩))⟩
  have hnew : ∀ b, BlkC c0.g d' vs' b → b ≠ g ∧ b ≠ m ∧ ∀ y, y ≠ k → ofD D y ≠ [] → ¬ (G y).blk b := by
    intro b hb
    rcases hblk b hb with hb | hb
    · exact hold b hb
    · refine ⟨fun e => by omega, fun e => by omega, fun y _ h3 h4 => ?_⟩
      have := ((h.prg y h3).1.blk b h4).2
      omega
  have f45 : Fr (fun b => b = m ∨ c0.blk b) w3 w5 := Fr.then (f4.mono fun b hb => Or.inr hb) f5 fun b hb => Or.inl (Or.inl hb)
  have hof : ∀ y, ofD (setD k l' D) y = if y = k then l' else ofD D y := fun y => setD_of k y l' D
  have hne : ∀ y, y ≠ k → ofD (setD k l' D) y = ofD D y := fun y hy => by rw [hof, if_neg hy]
  have hse : ofD (setD k l' D) k = l' := by rw [hof, if_pos rfl]
  obtain ⟨G', hGk, hG⟩ : ∃ G' : Ky → Cm, G' k = ⟨c0.g, d', vs'⟩ ∧ ∀ y, y ≠ k → G' y = G y := ⟨fun y => if y = k then ⟨c0.g, d', vs'⟩ else G y, if_pos rfl, fun y hy => if_neg hy⟩
  refine ⟨G', ?_, ?_, f45⟩
  · refine ⟨f45.cell h.cell ?_, h.bg, h.bm, hm.congr fun y _ => ?_, fun y hy => ?_, fun k1 k2 h1 h2 h12 b hb1 hb2 => ?_, fun y hy b hb => ?_, okD_set h.ok k hok hl, fun y hy => ?_, fun y => ?_, hfew⟩
    · rintro (e | e)
      · exact h.ne e
      · exact (hold g e).1 rfl
    · by_cases e : y = k
      · subst e
        rw [if_pos rfl, fOf_some (by rw [hse]; exact hl), hGk]
      · rw [if_neg e]
        unfold fOf
        rw [hne y e, hG y e]
    · by_cases e : y = k
      · subst e
        rw [hGk, hse]
        exact ⟨hp.fr f5 fun b hb => (hnew b hb).2.1, hv⟩
      · rw [hG y e, hne y e]
        rw [hne y e] at hy
        refine ⟨(h.prg y hy).1.fr f45 fun b hb hP => ?_, (h.prg y hy).2⟩
        rcases hP with hP | hP
        · exact (h.off y hy b hb).2 hP
        · exact (hold b hP).2.2 y e hy hb
    · by_cases e1 : k1 = k
      · subst e1
        have e2 : k2 ≠ k1 := Ne.symm h12
        rw [hGk] at hb1
        rw [hG k2 e2] at hb2
        rw [hne k2 e2] at h2
        exact (hnew b hb1).2.2 k2 e2 h2 hb2
      · rw [hG k1 e1] at hb1
        rw [hne k1 e1] at h1
        by_cases e2 : k2 = k
        · subst e2
          rw [hGk] at hb2
          exact (hnew b hb2).2.2 k1 e1 h1 hb1
        · rw [hG k2 e2] at hb2
          rw [hne k2 e2] at h2
          exact h.apart k1 k2 h1 h2 h12 b hb1 hb2
    · by_cases e : y = k
      · subst e
        rw [hGk] at hb
        exact ⟨(hnew b hb).1, (hnew b hb).2.1⟩
      · rw [hG y e] at hb
        rw [hne y e] at hy
        exact h.off y hy b hb
    · by_cases e : y = k
      · subst e; exact hk
      · rw [hne y e] at hy; exact h.key y hy
    · by_cases e : y = k
      · subst e; rw [hse]; exact hnum
      · rw [hne y e]; have := h.num y; omega
  · rintro b (rfl | rfl | ⟨y, hy, hb⟩)
    · exact Or.inl (Or.inl rfl)
    · exact Or.inl (Or.inr (Or.inl rfl))
    · by_cases e : y = k
      · subst e
        rw [hGk] at hb
        rcases hblk b hb with hb | hb
        · exact Or.inr (Or.inl hb)
        · exact Or.inr (Or.inr hb)
      · rw [hG y e] at hb
        rw [hne y e] at hy
        exact Or.inl (Or.inr (Or.inr ⟨y, hy, hb⟩))

end Go.Proofs.YticfpkodoghnnaaGreat

/-
  Put of a directory (stage 7).
-/
namespace Go.Proofs.YticfpkodoghnnaaGreat
open Go.RowKit

def codeD (D : List RowD) (k : Ky) (stamp : Int) (live : Bool) (val : List Fld) : Int := if keyB k.1 k.2 = true then putC (ofD D k) stamp live val else 2
def numD (D : List RowD) (k : Ky) (stamp : Int) (live : Bool) (val : List Fld) : Int := if codeD D k stamp live val = 0 then (lastV (ofD D k)).num + 1 else 0
def putD (D : List RowD) (k : Ky) (stamp tick : Int) (live : Bool) (val : List Fld) : List RowD := if codeD D k stamp live val = 0 then setD k (putV (ofD D k) stamp tick live val) D else D

theorem putV_len (l : List Vr) (stamp tick : Int) (live : Bool) (val : List Fld) : (putV l stamp tick live val).length = l.length + 1 := by unfold putV; simp
theorem putV_ne (l : List Vr) (stamp tick : Int) (live : Bool) (val : List Fld) : putV l stamp tick live val ≠ [] := by unfold putV; simp
theorem putV_num (l : List Vr) (stamp tick : Int) (live : Bool) (val : List Fld) : (lastV (putV l stamp tick live val)).num = (lastV l).num + 1 := by unfold putV; rw [lastV_snoc]

/-- A chain of the directory, or a new one, was put to; the map has the key. -/
theorem turn_put {n0 : Nat} {W wc w4 w5 : World} {g m n : Nat} {G : Ky → Cm} {D : List RowD} (h : DirM n0 W g m n G D) (hbc : Below W.heap.size W wc) (k : Ky) (c0 : Cm) (hk : keyB k.1 k.2 = true)
    (hc : (ofD D k ≠ [] ∧ c0 = G k) ∨ (ofD D k = [] ∧ ∀ b, c0.blk b → W.heap.size ≤ b)) {stamp tick : Int} {live : Bool} {val : List Fld} (ht : TurnC n0 wc c0.g c0.d c0.vs (putL (ofD D k) stamp tick live val) w4) (hcode : putC (ofD D k) stamp live val = 0)
    (f5 : Fr (fun b => b = m) w4 w5) (hm : MapD w5 m (n + 1) (fun y => if y = k then some c0.g else fOf G D y)) : TurnD n0 W g m G D (n + 1) (putD D k stamp tick live val) w5 := by
  have hl : putL (ofD D k) stamp tick live val = putV (ofD D k) stamp tick live val := if_pos hcode
  rw [hl] at ht
  have hok : OkV (putV (ofD D k) stamp tick live val) := by
    obtain ⟨d', vs', hp, hv, _⟩ := ht
    rw [← hv]
    exact hp.ok
  have hcd : codeD D k stamp live val = 0 := by unfold codeD; rw [if_pos hk]; exact hcode
  have hcnt := setD_count k (putV (ofD D k) stamp tick live val) h.ok
  rw [putV_len] at hcnt
  have hnum := h.num k
  have hfew := h.few
  obtain ⟨G', h1, h2, h3⟩ := dirM_set (h.on hbc) k c0 (hc.imp id fun ⟨a, b⟩ => ⟨a, fun x hx hn => by have := (h.blk x hn).2; have := b x hx; omega⟩) ht f5 hm (putV_ne _ _ _ _ _) hk hok (by rw [putV_num]; omega) (by omega) (by omega)
  have hs := hbc.size
  have hcb : ∀ b, c0.blk b → BlkD g m G D b ∨ W.heap.size ≤ b := fun b hb => by
    rcases hc with ⟨a, rfl⟩ | ⟨_, a⟩
    · exact Or.inl (Or.inr (Or.inr ⟨k, a, hb⟩))
    · exact Or.inr (a b hb)
  have hD : putD D k stamp tick live val = setD k (putV (ofD D k) stamp tick live val) D := if_pos hcd
  rw [hD]
  refine ⟨G', h1, fun b hb => ?_, Fr.then (Fr.of_below hbc) h3 fun b hb => ?_⟩
  · rcases h2 b hb with h | h | h
    · exact Or.inl h
    · exact hcb b h
    · exact Or.inr (by omega)
  · rcases hb with rfl | hb
    · exact Or.inl (Or.inr (Or.inl rfl))
    · exact hcb b hb

/-- A refused Put leaves the directory as it was. -/
theorem turn_not {n0 : Nat} {W wc w4 : World} {g m n : Nat} {G : Ky → Cm} {D : List RowD} (h : DirM n0 W g m n G D) (hbc : Below W.heap.size W wc) (k : Ky) (c0 : Cm) (hk : keyB k.1 k.2 = true)
    (hc : (ofD D k ≠ [] ∧ c0 = G k) ∨ (ofD D k = [] ∧ ∀ b, c0.blk b → W.heap.size ≤ b)) {stamp tick : Int} {live : Bool} {val : List Fld} (ht : TurnC n0 wc c0.g c0.d c0.vs (putL (ofD D k) stamp tick live val) w4) (hcode : putC (ofD D k) stamp live val ≠ 0) : TurnD n0 W g m G D (n + 1) (putD D k stamp tick live val) w4 := by
  have hl : putL (ofD D k) stamp tick live val = ofD D k := if_neg hcode
  rw [hl] at ht
  have hcd : codeD D k stamp live val ≠ 0 := by unfold codeD; rw [if_pos hk]; exact hcode
  have hD : putD D k stamp tick live val = D := if_neg hcd
  rw [hD]
  have hs := hbc.size
  rcases hc with ⟨a, rfl⟩ | ⟨a, b⟩
  · have hok : OkV (ofD D k) := ofD_ok h.ok k
    have hcnt := setD_count k (ofD D k) h.ok
    have hnum := h.num k
    have hfew := h.few
    have hb4 : w4.heap[m]? = wc.heap[m]? := by
      obtain ⟨d', vs', _, _, _, f⟩ := ht
      exact f.block m (Nat.lt_of_lt_of_le h.map.lt hs) fun hb => (h.off k a m hb).2 rfl
    have hm : MapD w4 m (n + 1) (fun y => if y = k then some (G k).g else fOf G D y) := (((h.map.on (hbc.block m h.map.lt)).on hb4).mono (Nat.le_succ n)).congr fun y _ => by
      by_cases e : y = k
      · subst e; rw [if_pos rfl, fOf_some a]
      · rw [if_neg e]
    obtain ⟨G', h1, h2, h3⟩ := dirM_set (h.on hbc) k (G k) (Or.inl ⟨a, rfl⟩) ht (Fr.refl _ _) hm a hk hok (by omega) (by omega) (by omega)
    rw [setD_id h.ok a] at h1 h2
    refine ⟨G', h1, fun x hx => ?_, Fr.then (Fr.of_below hbc) h3 fun x hx => ?_⟩
    · rcases h2 x hx with h | h | h
      · exact Or.inl h
      · exact Or.inl (Or.inr (Or.inr ⟨k, a, h⟩))
      · exact Or.inr (by omega)
    · rcases hx with rfl | hx
      · exact Or.inl (Or.inr (Or.inl rfl))
      · exact Or.inl (Or.inr (Or.inr ⟨k, a, hx⟩))
  · obtain ⟨d', vs', _, _, _, f⟩ := ht
    exact TurnD.same h (hbc.trans (f.below hs b)) (Nat.le_succ n)

set_option maxHeartbeats 4000000 in
set_option maxRecDepth 100000 in
theorem dput_any {n0 : Nat} {W : World} {g m n : Nat} {G : Ky → Cm} {D : List RowD} (h : DirM n0 W g m n G D) (hn : n < 2400000000000) (hn0 : n0 ≤ W.heap.size) (k : Ky) (hk : FitK k) (stamp tick : Int) (live : Bool) (v : Value) (e : List Fx) (val : List Fld) (hv : IsXs W v e) (hf : FitX e) (hval : e.map Fx.fld = val) (h0 : 0 ≤ stamp) :
    Calls Tryz.prog 25 #[.pointer (some ⟨g, 0, none⟩), .agg #[.string k.1, .string k.2], .int .u64 stamp, .int .i64 tick, .bool live, v] W fun r w' =>
      r = .returned (.tuple #[.int .i64 (numD D k stamp live val), .int .i64 (codeD D k stamp live val)]) ∧ TurnD n0 W g m G D (n + 1) (putD D k stamp tick live val) w' := by
  obtain ⟨N, hN⟩ : ∃ N, W.heap.size = N := ⟨_, rfl⟩
  obtain ⟨W1, hW1⟩ : ∃ W1, W.alloc (.cells #[.string k.1, .string k.2] 31) = W1 := ⟨_, rfl⟩
  have hs1 : W1.heap.size = N + 1 := by rw [← hW1, ← hN]; simp
  have hb1 : Below N W W1 := by rw [← hW1, ← hN]; exact (Below.refl _ _).alloc (Nat.le_refl _) _
  have hk1 : W1.heap[N]? = some (.cells #[.string k.1, .string k.2] 31 (0, 0)) := by rw [← hW1, ← hN]; exact heap_alloc_new W _
  have KC : Hid (∀ w', Below W1.heap.size W1 w' → w'.cell? ⟨N, 0, none⟩ = some (.string k.1) ∧ w'.cell? ⟨N, 1, none⟩ = some (.string k.2)) := fun w' hb => by
    have := (hb.block N (by omega)).trans hk1
    exact ⟨by rw [Lib.cell_of_heap this]; rfl, by rw [Lib.cell_of_heap this]; rfl⟩
  have KB : Hid (∀ w', Below W1.heap.size W1 w' → Below W.heap.size W w') := fun w' hb => by rw [hN]; exact bel_then hb1 (by omega) hb
  have HK := hid (key_any k.1 k.2 W1 hk.1 hk.2)
  have HO : Hid (∀ w', Below W1.heap.size W1 w' → Calls Tryz.prog 52 #[.pointer (some ⟨g, 0, none⟩), .agg #[.string k.1, .string k.2]] w' fun e w2 => e = .returned (mkP (fOf G D k)) ∧ Below w'.heap.size w' w2) := fun w' hb => (h.on (KB.out w' hb)).of k hk
  have HH := hid h
  have HV := hid hv
  obtain ⟨c0, c1⟩ := KC.out W1 (Below.refl _ _)
  have hnum := h.num k
  cases hkb : keyB k.1 k.2 with
  | false =>
    have HC : Hid (codeD D k stamp live val = 2 ∧ numD D k stamp live val = 0 ∧ putD D k stamp tick live val = D) := by
      have e1 : codeD D k stamp live val = 2 := by unfold codeD; rw [hkb]; rfl
      refine ⟨e1, ?_, ?_⟩
      · unfold numD; rw [e1]; rfl
      · unfold putD; rw [e1]; rfl
    rw [HC.out.1, HC.out.2.1, HC.out.2.2]
    rw [hkb] at HK
    obtain ⟨ka, kb⟩ := k
    simp only at *
    clear hk1 hb1 h hk hv hkb
    go_enter Tryz.func25, Tryz.ntmps25
    go_wp2_with fail
    refine HK.out.mono ?_
    rintro e w2 ⟨rfl, hb2⟩
    have HB2 := hid (KB.out w2 hb2)
    clear hb2
    go_wp2_with fail
    go_ret2
    exact ⟨rfl, TurnD.same HH.out HB2.out (Nat.le_succ n)⟩
  | true =>
    rw [hkb] at HK
    have HCO : Hid (codeD D k stamp live val = putC (ofD D k) stamp live val) := by show _ = _; unfold codeD; rw [hkb]; rfl
    have HKB := hid hkb
    have hcell := h.cell
    have hgm : g < W.heap.size := cell_block hcell
    have hml := h.map.lt
    have KG : Hid (∀ w' : World, w'.heap[g]? = W.heap[g]? → w'.cell? ⟨g, 0, none⟩ = some (.map (some m))) := fun w' he => (World.cell?_of_block he).trans hcell
    by_cases hof : ofD D k = []
    · skip
      have HPU : Hid (∀ w' wc, Below W1.heap.size W1 w' → PrgC w'.heap.size wc w'.heap.size [] (.slice none 0 0) → Below w'.heap.size w' wc → Calls Tryz.prog 54 #[.pointer (some ⟨w'.heap.size, 0, none⟩), .int .u64 stamp, .int .i64 tick, .bool live, v] wc fun r w2 =>
          r = .returned (.tuple #[.int .i64 (putN (ofD D k) stamp live val), .int .i64 (putC (ofD D k) stamp live val)]) ∧ TurnC n0 wc w'.heap.size [] (.slice none 0 0) (putL (ofD D k) stamp tick live val) w2) := fun w' wc hb hp hbc => by
        have hb' := KB.out w' hb
        have hs' := hb'.size
        have := put_any (hp.weak (show n0 ≤ w'.heap.size by omega)) stamp tick live v e val ((HV.out.kept hb').kept hbc) hf hval h0 (by show (0 : Int) < _; omega)
        rw [hof]
        exact this
      have HOP : Hid (∀ w' : World, Below W1.heap.size W1 w' → ∀ b, BlkC w'.heap.size [] (.slice none 0 0) b → b = w'.heap.size ∧ N + 1 ≤ b) := fun w' hb b hx => by
        have hs' := hb.size
        rcases hx with rfl | hx | ⟨x, hx, _⟩
        · exact ⟨rfl, by omega⟩
        · cases hx
        · simp at hx
      rw [fOf_none hof] at HO
      simp only [mkP, Option.map_none] at HO
      obtain ⟨cd, hcd⟩ : ∃ cd, putC (ofD D k) stamp live val = cd := ⟨_, rfl⟩
      obtain ⟨pn, hpn⟩ : ∃ pn, putN (ofD D k) stamp live val = pn := ⟨_, rfl⟩
      rw [hcd, hpn] at HPU
      by_cases hz : cd = 0
      · have hcb : (cd != 0) = false := by rw [hz]; rfl
        have HC : Hid (codeD D k stamp live val = 0 ∧ numD D k stamp live val = pn) := by
          have e1 : codeD D k stamp live val = 0 := by rw [HCO.out, hcd, hz]
          refine ⟨e1, ?_⟩
          unfold numD
          rw [if_pos e1, ← hpn]
          unfold putN
          rw [hcd, hz, if_pos rfl]
        have HZ : Hid (putC (ofD D k) stamp live val = 0) := hcd.trans hz
        rw [HC.out.1, HC.out.2]
        obtain ⟨ka, kb⟩ := k
        simp only at *
        clear hk1 hb1 h hv hkb hcd hpn hcell
        go_enter Tryz.func25, Tryz.ntmps25
        go_wp2_with fail
        refine HK.out.mono ?_
        rintro e w2 ⟨rfl, hb2⟩
        obtain ⟨c0, c1⟩ := KC.out w2 hb2
        have HO2 := hid (HO.out w2 hb2)
        have HB2 := hid hb2
        clear hb2
        go_wp2_with fail
        refine HO2.out.mono ?_
        rintro e w3 ⟨rfl, hb3⟩
        have HB3 : Hid (Below W1.heap.size W1 w3) := bel_then HB2.out HB2.out.size hb3
        clear hb3 c0 c1
        have HN3 := hid (new_any w3)
        go_wp2_with fail
        refine HN3.out.mono ?_
        rintro e wc ⟨rfl, hpc, hbc⟩
        have HBC : Hid (Below W1.heap.size W1 wc) := bel_then HB3.out HB3.out.size hbc
        have HP3 := hid (HPU.out w3 wc HB3.out hpc hbc)
        have hs3 := HB3.out.size
        clear hpc hbc HN3
        go_wp2_with fail
        refine HP3.out.mono ?_
        rintro e w4 ⟨rfl, ht⟩
        have HT := hid ht
        obtain ⟨c0, c1⟩ := KC.out wc HBC.out
        have hfr : Fr (BlkC w3.heap.size [] (.slice none 0 0)) wc w4 := by obtain ⟨_, _, _, _, _, f⟩ := ht; exact f
        have hN4 : w4.heap[N]? = wc.heap[N]? := hfr.block N (by have := HBC.out.size; omega) (fun hb => by have := (HOP.out w3 HB3.out N hb).2; omega)
        have hg4 : w4.heap[g]? = W.heap[g]? := (hfr.block g (Nat.lt_of_lt_of_le hgm (KB.out _ HBC.out).size) (fun hb => by have := (HOP.out w3 HB3.out g hb).2; omega)).trans ((KB.out _ HBC.out).block g hgm)
        have hm4 : w4.heap[m]? = W.heap[m]? := (hfr.block m (Nat.lt_of_lt_of_le hml (KB.out _ HBC.out).size) (fun hb => by have := (HOP.out w3 HB3.out m hb).2; omega)).trans ((KB.out _ HBC.out).block m hml)
        have d0 : w4.cell? ⟨N, 0, none⟩ = some (.string ka) := (World.cell?_of_block hN4).trans c0
        have d1 : w4.cell? ⟨N, 1, none⟩ = some (.string kb) := (World.cell?_of_block hN4).trans c1
        have d2 := KG.out w4 hg4
        obtain ⟨w5, hrun, hM5, hg5⟩ := mapD_put (W := w4.drew) (HH.out.map.on hm4) (k := (ka, kb)) hk (by unfold maxLen; omega) w3.heap.size
        simp only [valK, mkP, Option.map_some] at hrun
        have HM5 := hid hM5
        have HG5 := hid hg5
        clear hM5 hg5 ht hfr hN4 hg4 hm4 c0 c1
        go_wp2_with fail
        refine wp_region_held_drew (S := fun w' => w'.cell? ⟨g, 0, none⟩ = some (.map (some m)) ∧ w'.cell? ⟨N, 0, none⟩ = some (.string ka) ∧ w'.cell? ⟨N, 1, none⟩ = some (.string kb)) (by kernel_rfl) ⟨d2, d0, d1⟩ (fun hHeld => ?_)
        refine take_val (i := 0) (.pointer (some ⟨g, 0, none⟩)) rfl (by kernel_rfl) (by kernel_rfl) (by kernel_rfl) (fun _ _ _ h => h) (by rfl) (fun w hSw => by go_simp) hHeld ?_
        simp only [Act.put, List.setIfInBounds_toArray, List.set_cons_zero, List.set_cons_succ]
        refine take_val (i := 1) (.pointer (some ⟨g, 0, none⟩)) rfl (by kernel_rfl) (by kernel_rfl) (by kernel_rfl) (fun _ _ _ h => h) (by rfl) (fun w hSw => by go_simp) hHeld ?_
        simp only [Act.put, List.setIfInBounds_toArray, List.set_cons_zero, List.set_cons_succ]
        refine take_val (i := 2) (.pointer (some ⟨g, 0, none⟩)) rfl (by kernel_rfl) (by kernel_rfl) (by kernel_rfl) (fun _ _ _ h => h) (by rfl) (fun w hSw => by go_simp) hHeld ?_
        simp only [Act.put, List.setIfInBounds_toArray, List.set_cons_zero, List.set_cons_succ]
        refine take_val (i := 3) (.map (some m)) rfl (by kernel_rfl) (by kernel_rfl) (by kernel_rfl) (fun _ _ _ h => h) (by rfl) (fun w hSw => by go_simp) hHeld ?_
        simp only [Act.put, List.setIfInBounds_toArray, List.set_cons_zero, List.set_cons_succ]
        refine take_val (i := 4) (.agg #[.string ka, .string kb]) rfl (by kernel_rfl) (by kernel_rfl) (by kernel_rfl) (fun _ _ _ h => h) (by rfl) (fun w hSw => by go_simp) hHeld ?_
        simp only [Act.put, List.setIfInBounds_toArray, List.set_cons_zero, List.set_cons_succ]
        refine take_val (i := 5) (.pointer (some ⟨w3.heap.size, 0, none⟩)) rfl (by kernel_rfl) (by kernel_rfl) (by kernel_rfl) (fun _ _ _ h => h) (by rfl) (fun w hSw => by go_simp) hHeld ?_
        simp only [Act.put, List.setIfInBounds_toArray, List.set_cons_zero, List.set_cons_succ]
        refine wpAnyH_ready (rs := [6]) (by kernel_rfl) (by simp) ?_
        refine AllReadyH.cons (at_drop0 rfl) (fun K hK => ?_) AllReadyH.nil
        rw [if_pos (by rfl)]
        go_simp
        have f5 : Fr (fun b => b = m) w4 w5 := by
          have q := Fr.of_grown (P := fun b => b = m) HG5.out fun k hk => by injection hk with hk; exact hk.symm
          exact ⟨q.os, q.tape, q.output, q.size, q.block⟩
        have q5 : w5.cell? ⟨g, 0, none⟩ = some (.map (some m)) ∧ w5.cell? ⟨N, 0, none⟩ = some (.string ka) ∧ w5.cell? ⟨N, 1, none⟩ = some (.string kb) :=
          ⟨f5.cell d2 HH.out.ne, f5.cell d0 (by show N ≠ m; omega), f5.cell d1 (by show N ≠ m; omega)⟩
        refine hK.out _ _ q5 (fun hHeld => ?_)
        clear hK K
        try simp only [Act.put, List.setIfInBounds_toArray, List.set_cons_zero, List.set_cons_succ]
        refine wpAnyH_done (by kernel_rfl) ?_ _
        go_wp2_with fail
        go_ret2
        exact ⟨rfl, turn_put HH.out (KB.out _ HBC.out) (ka, kb) ⟨w3.heap.size, [], .slice none 0 0⟩ HKB.out (Or.inr ⟨hof, fun b hb => by have := (HOP.out w3 HB3.out b hb).2; omega⟩) HT.out HZ.out f5 HM5.out⟩
      · have hcb : (cd != 0) = true := by simpa using hz
        have HC : Hid (codeD D k stamp live val = cd ∧ numD D k stamp live val = 0) := by
          have e1 : codeD D k stamp live val = cd := by rw [HCO.out, hcd]
          refine ⟨e1, ?_⟩
          unfold numD
          rw [e1, if_neg hz]
        have HZ : Hid (putC (ofD D k) stamp live val ≠ 0) := by show _ ≠ _; rw [hcd]; exact hz
        rw [HC.out.1, HC.out.2]
        obtain ⟨ka, kb⟩ := k
        simp only at *
        clear hk1 hb1 h hv hkb hcd hpn hcell hz
        go_enter Tryz.func25, Tryz.ntmps25
        go_wp2_with fail
        refine HK.out.mono ?_
        rintro e w2 ⟨rfl, hb2⟩
        obtain ⟨c0, c1⟩ := KC.out w2 hb2
        have HO2 := hid (HO.out w2 hb2)
        have HB2 := hid hb2
        clear hb2
        go_wp2_with fail
        refine HO2.out.mono ?_
        rintro e w3 ⟨rfl, hb3⟩
        have HB3 : Hid (Below W1.heap.size W1 w3) := bel_then HB2.out HB2.out.size hb3
        clear hb3 c0 c1
        have HN3 := hid (new_any w3)
        go_wp2_with fail
        refine HN3.out.mono ?_
        rintro e wc ⟨rfl, hpc, hbc⟩
        have HBC : Hid (Below W1.heap.size W1 wc) := bel_then HB3.out HB3.out.size hbc
        have HP3 := hid (HPU.out w3 wc HB3.out hpc hbc)
        have hs3 := HB3.out.size
        clear hpc hbc HN3
        go_wp2_with fail
        refine HP3.out.mono ?_
        rintro e w4 ⟨rfl, ht⟩
        have HT := hid ht
        clear ht
        go_wp2_with fail
        go_ret2
        exact ⟨rfl, turn_not HH.out (KB.out _ HBC.out) (ka, kb) ⟨w3.heap.size, [], .slice none 0 0⟩ HKB.out (Or.inr ⟨hof, fun b hb => by have := (HOP.out w3 HB3.out b hb).2; omega⟩) HT.out HZ.out⟩
    · skip
      have hpr := h.prg k hof
      have hoff := h.off k hof
      have HPU : Hid (∀ w', Below W1.heap.size W1 w' → Calls Tryz.prog 54 #[.pointer (some ⟨(G k).g, 0, none⟩), .int .u64 stamp, .int .i64 tick, .bool live, v] w' fun r w2 =>
          r = .returned (.tuple #[.int .i64 (putN (ofD D k) stamp live val), .int .i64 (putC (ofD D k) stamp live val)]) ∧ TurnC n0 w' (G k).g (G k).d (G k).vs (putL (ofD D k) stamp tick live val) w2) := fun w' hb => by
        have hb' := KB.out w' hb
        have := put_any (hpr.1.on hb') stamp tick live v e val (HV.out.kept hb') hf hval h0 (by rw [hpr.2]; omega)
        rwa [hpr.2] at this
      have HOP : Hid (∀ b, (G k).blk b → b ≠ g ∧ b ≠ m ∧ b < N) := fun b hb => ⟨(hoff b hb).1, (hoff b hb).2, by rw [← hN]; exact (hpr.1.blk b hb).2⟩
      rw [fOf_some hof] at HO
      simp only [mkP, Option.map_some] at HO
      clear hpr hoff
      obtain ⟨cd, hcd⟩ : ∃ cd, putC (ofD D k) stamp live val = cd := ⟨_, rfl⟩
      obtain ⟨pn, hpn⟩ : ∃ pn, putN (ofD D k) stamp live val = pn := ⟨_, rfl⟩
      rw [hcd, hpn] at HPU
      by_cases hz : cd = 0
      · have hcb : (cd != 0) = false := by rw [hz]; rfl
        have HC : Hid (codeD D k stamp live val = 0 ∧ numD D k stamp live val = pn) := by
          have e1 : codeD D k stamp live val = 0 := by rw [HCO.out, hcd, hz]
          refine ⟨e1, ?_⟩
          unfold numD
          rw [if_pos e1, ← hpn]
          unfold putN
          rw [hcd, hz, if_pos rfl]
        have HZ : Hid (putC (ofD D k) stamp live val = 0) := hcd.trans hz
        rw [HC.out.1, HC.out.2]
        obtain ⟨ka, kb⟩ := k
        simp only at *
        clear hk1 hb1 h hv hkb hcd hpn hcell
        go_enter Tryz.func25, Tryz.ntmps25
        go_wp2_with fail
        refine HK.out.mono ?_
        rintro e w2 ⟨rfl, hb2⟩
        obtain ⟨c0, c1⟩ := KC.out w2 hb2
        have HO2 := hid (HO.out w2 hb2)
        have HB2 := hid hb2
        clear hb2
        go_wp2_with fail
        refine HO2.out.mono ?_
        rintro e w3 ⟨rfl, hb3⟩
        have HB3 : Hid (Below W1.heap.size W1 w3) := bel_then HB2.out HB2.out.size hb3
        clear hb3 c0 c1
        have HP3 := hid (HPU.out w3 HB3.out)
        go_wp2_with fail
        refine HP3.out.mono ?_
        rintro e w4 ⟨rfl, ht⟩
        have HT := hid ht
        obtain ⟨c0, c1⟩ := KC.out w3 HB3.out
        have hfr : Fr (BlkC (G (ka, kb)).g (G (ka, kb)).d (G (ka, kb)).vs) w3 w4 := by obtain ⟨_, _, _, _, _, f⟩ := ht; exact f
        have hN4 : w4.heap[N]? = w3.heap[N]? := hfr.block N (by have := HB3.out.size; omega) (fun hb => by have := (HOP.out N hb).2.2; omega)
        have hg4 : w4.heap[g]? = W.heap[g]? := (hfr.block g (Nat.lt_of_lt_of_le hgm (KB.out _ HB3.out).size) (fun hb => (HOP.out g hb).1 rfl)).trans ((KB.out _ HB3.out).block g hgm)
        have hm4 : w4.heap[m]? = W.heap[m]? := (hfr.block m (Nat.lt_of_lt_of_le hml (KB.out _ HB3.out).size) (fun hb => (HOP.out m hb).2.1 rfl)).trans ((KB.out _ HB3.out).block m hml)
        have d0 : w4.cell? ⟨N, 0, none⟩ = some (.string ka) := (World.cell?_of_block hN4).trans c0
        have d1 : w4.cell? ⟨N, 1, none⟩ = some (.string kb) := (World.cell?_of_block hN4).trans c1
        have d2 := KG.out w4 hg4
        obtain ⟨w5, hrun, hM5, hg5⟩ := mapD_put (W := w4.drew) (HH.out.map.on hm4) (k := (ka, kb)) hk (by unfold maxLen; omega) (G (ka, kb)).g
        simp only [valK, mkP, Option.map_some] at hrun
        have HM5 := hid hM5
        have HG5 := hid hg5
        clear hM5 hg5 ht hfr hN4 hg4 hm4 c0 c1
        go_wp2_with fail
        refine wp_region_held_drew (S := fun w' => w'.cell? ⟨g, 0, none⟩ = some (.map (some m)) ∧ w'.cell? ⟨N, 0, none⟩ = some (.string ka) ∧ w'.cell? ⟨N, 1, none⟩ = some (.string kb)) (by kernel_rfl) ⟨d2, d0, d1⟩ (fun hHeld => ?_)
        refine take_val (i := 0) (.pointer (some ⟨g, 0, none⟩)) rfl (by kernel_rfl) (by kernel_rfl) (by kernel_rfl) (fun _ _ _ h => h) (by rfl) (fun w hSw => by go_simp) hHeld ?_
        simp only [Act.put, List.setIfInBounds_toArray, List.set_cons_zero, List.set_cons_succ]
        refine take_val (i := 1) (.pointer (some ⟨g, 0, none⟩)) rfl (by kernel_rfl) (by kernel_rfl) (by kernel_rfl) (fun _ _ _ h => h) (by rfl) (fun w hSw => by go_simp) hHeld ?_
        simp only [Act.put, List.setIfInBounds_toArray, List.set_cons_zero, List.set_cons_succ]
        refine take_val (i := 2) (.pointer (some ⟨g, 0, none⟩)) rfl (by kernel_rfl) (by kernel_rfl) (by kernel_rfl) (fun _ _ _ h => h) (by rfl) (fun w hSw => by go_simp) hHeld ?_
        simp only [Act.put, List.setIfInBounds_toArray, List.set_cons_zero, List.set_cons_succ]
        refine take_val (i := 3) (.map (some m)) rfl (by kernel_rfl) (by kernel_rfl) (by kernel_rfl) (fun _ _ _ h => h) (by rfl) (fun w hSw => by go_simp) hHeld ?_
        simp only [Act.put, List.setIfInBounds_toArray, List.set_cons_zero, List.set_cons_succ]
        refine take_val (i := 4) (.agg #[.string ka, .string kb]) rfl (by kernel_rfl) (by kernel_rfl) (by kernel_rfl) (fun _ _ _ h => h) (by rfl) (fun w hSw => by go_simp) hHeld ?_
        simp only [Act.put, List.setIfInBounds_toArray, List.set_cons_zero, List.set_cons_succ]
        refine take_val (i := 5) (.pointer (some ⟨(G (ka, kb)).g, 0, none⟩)) rfl (by kernel_rfl) (by kernel_rfl) (by kernel_rfl) (fun _ _ _ h => h) (by rfl) (fun w hSw => by go_simp) hHeld ?_
        simp only [Act.put, List.setIfInBounds_toArray, List.set_cons_zero, List.set_cons_succ]
        refine wpAnyH_ready (rs := [6]) (by kernel_rfl) (by simp) ?_
        refine AllReadyH.cons (at_drop0 rfl) (fun K hK => ?_) AllReadyH.nil
        rw [if_pos (by rfl)]
        go_simp
        have f5 : Fr (fun b => b = m) w4 w5 := by
          have q := Fr.of_grown (P := fun b => b = m) HG5.out fun k hk => by injection hk with hk; exact hk.symm
          exact ⟨q.os, q.tape, q.output, q.size, q.block⟩
        have q5 : w5.cell? ⟨g, 0, none⟩ = some (.map (some m)) ∧ w5.cell? ⟨N, 0, none⟩ = some (.string ka) ∧ w5.cell? ⟨N, 1, none⟩ = some (.string kb) :=
          ⟨f5.cell d2 HH.out.ne, f5.cell d0 (by show N ≠ m; omega), f5.cell d1 (by show N ≠ m; omega)⟩
        refine hK.out _ _ q5 (fun hHeld => ?_)
        clear hK K
        try simp only [Act.put, List.setIfInBounds_toArray, List.set_cons_zero, List.set_cons_succ]
        refine wpAnyH_done (by kernel_rfl) ?_ _
        go_wp2_with fail
        go_ret2
        exact ⟨rfl, turn_put HH.out (KB.out _ HB3.out) (ka, kb) (G (ka, kb)) HKB.out (Or.inl ⟨hof, rfl⟩) HT.out HZ.out f5 HM5.out⟩
      · have hcb : (cd != 0) = true := by simpa using hz
        have HC : Hid (codeD D k stamp live val = cd ∧ numD D k stamp live val = 0) := by
          have e1 : codeD D k stamp live val = cd := by rw [HCO.out, hcd]
          refine ⟨e1, ?_⟩
          unfold numD
          rw [e1, if_neg hz]
        have HZ : Hid (putC (ofD D k) stamp live val ≠ 0) := by show _ ≠ _; rw [hcd]; exact hz
        rw [HC.out.1, HC.out.2]
        obtain ⟨ka, kb⟩ := k
        simp only at *
        clear hk1 hb1 h hv hkb hcd hpn hcell hz
        go_enter Tryz.func25, Tryz.ntmps25
        go_wp2_with fail
        refine HK.out.mono ?_
        rintro e w2 ⟨rfl, hb2⟩
        obtain ⟨c0, c1⟩ := KC.out w2 hb2
        have HO2 := hid (HO.out w2 hb2)
        have HB2 := hid hb2
        clear hb2
        go_wp2_with fail
        refine HO2.out.mono ?_
        rintro e w3 ⟨rfl, hb3⟩
        have HB3 : Hid (Below W1.heap.size W1 w3) := bel_then HB2.out HB2.out.size hb3
        clear hb3 c0 c1
        have HP3 := hid (HPU.out w3 HB3.out)
        go_wp2_with fail
        refine HP3.out.mono ?_
        rintro e w4 ⟨rfl, ht⟩
        have HT := hid ht
        clear ht
        go_wp2_with fail
        go_ret2
        exact ⟨rfl, turn_not HH.out (KB.out _ HB3.out) (ka, kb) (G (ka, kb)) HKB.out (Or.inl ⟨hof, rfl⟩) HT.out HZ.out⟩

end Go.Proofs.YticfpkodoghnnaaGreat

/-
  Count and Prune of a directory (stage 7): a range over its map, in whatever order the keys come.
-/
namespace Go.Proofs.YticfpkodoghnnaaGreat
open Go.RowKit

/-! ## Sums over keys that have come -/

theorem sum_sub {F : Ky → Nat} : ∀ {s t : List Ky}, s.Nodup → (∀ k ∈ s, k ∈ t) → (s.map F).sum ≤ (t.map F).sum
  | [], _, _, _ => Nat.zero_le _
  | k :: s, t, hn, hs => by
    obtain ⟨h1, h2⟩ := List.nodup_cons.1 hn
    obtain ⟨a, b, rfl⟩ := List.append_of_mem (hs k List.mem_cons_self)
    have ih := sum_sub (F := F) (s := s) (t := a ++ b) h2 fun x hx => by
      have := hs x (List.mem_cons_of_mem _ hx)
      rw [List.mem_append, List.mem_cons] at this
      rw [List.mem_append]
      rcases this with h | rfl | h
      · exact Or.inl h
      · exact absurd hx h1
      · exact Or.inr h
    simp only [List.map_append, List.map_cons, List.sum_append, List.sum_cons] at ih ⊢
    omega

theorem sum_same {F : Ky → Nat} {s t : List Ky} (hs : s.Nodup) (ht : t.Nodup) (h : ∀ k, k ∈ s ↔ k ∈ t) : (s.map F).sum = (t.map F).sum :=
  Nat.le_antisymm (sum_sub hs fun k hk => (h k).1 hk) (sum_sub ht fun k hk => (h k).2 hk)

theorem rise_nodup {l : List Ky} (h : RisingR ltKy l) : l.Nodup := h.imp fun {a b} hab e => by
  rw [e, totK.irr] at hab
  cases hab

theorem sum_keys {D : List RowD} (h : OkD D) (f : List Vr → Nat) : ((D.map Prod.fst).map fun k => f (ofD D k)).sum = (D.map fun r => f r.2).sum := by
  rw [List.map_map]
  congr 1
  refine List.map_congr_left fun r hr => ?_
  show f (ofD D r.1) = f r.2
  rw [ofD_mem h hr]

/-- The keys that have come are all: what is summed over them is summed over the directory. -/
theorem seen_all {D : List RowD} (h : OkD D) (f : List Vr → Nat) {seen : List Ky} (hn : seen.Nodup) (h1 : ∀ k ∈ seen, ofD D k ≠ []) (h2 : ∀ k, ofD D k ≠ [] → k ∈ seen) : (seen.map fun k => f (ofD D k)).sum = (D.map fun r => f r.2).sum := by
  rw [← sum_keys h f]
  exact sum_same hn (rise_nodup h.rise) fun k => ⟨fun hk => (there_iff h k).2 (h1 k hk), fun hk => h2 k ((there_iff h k).1 hk)⟩
theorem seen_some {D : List RowD} (h : OkD D) (f : List Vr → Nat) {seen : List Ky} (hn : seen.Nodup) (h1 : ∀ k ∈ seen, ofD D k ≠ []) : (seen.map fun k => f (ofD D k)).sum ≤ (D.map fun r => f r.2).sum := by
  rw [← sum_keys h f]
  exact sum_sub hn fun k hk => (there_iff h k).2 (h1 k hk)

theorem fOf_iff {G : Ky → Cm} {D : List RowD} {k : Ky} : (fOf G D k).isSome = true ↔ ofD D k ≠ [] := by
  by_cases e : ofD D k = []
  · rw [fOf_none e]; simp [e]
  · rw [fOf_some e]; simp [e]

theorem MapD.uniq {W : World} {m n n' : Nat} {f f' : Ky → Option Nat} (h : MapD W m n f) (h' : MapD W m n' f') {k : Ky} (hk : FitK k) : f k = f' k := by
  have h1 := mapD_look h hk
  rw [mapD_look h' hk] at h1
  injection h1 with h1
  unfold mkP at h1
  injection h1 with h1
  cases ha : f k <;> cases hb : f' k <;> rw [ha, hb] at h1 <;> simp at h1
  · rw [h1]

theorem count_snoc (F : Ky → Nat) (s : List Ky) (k : Ky) : ((s ++ [k]).map F).sum = (s.map F).sum + F k := by simp

/-! ## Count -/

end Go.Proofs.YticfpkodoghnnaaGreat

/-
  Prune of a directory (stage 7).
-/
namespace Go.Proofs.YticfpkodoghnnaaGreat
open Go.RowKit

/-! ## No block of a directory is an iterator -/

theorem cell_cells {w : World} {b o : Nat} {v : Value} (h : w.cell? ⟨b, o, none⟩ = some v) : ∃ cs t fz, w.heap[b]? = some (.cells cs t fz) := by
  unfold World.cell? at h
  split at h
  · next cs t fz hh => exact ⟨_, _, _, hh⟩
  · cases h

theorem PrgC.cells {n0 : Nat} {w : World} {g : Nat} {d : List Vx} {vs : Value} (h : PrgC n0 w g d vs) {b : Nat} (hb : BlkC g d vs b) : ∃ cs t fz, w.heap[b]? = some (.cells cs t fz) := by
  rcases hb with rfl | hb | ⟨x, hx, hb⟩
  · exact cell_cells h.cell
  · obtain ⟨cs, hc⟩ := own_type (show w.ownsRow n0 39 5 vs d.length (KV.cells d) from h.row) hb
    exact ⟨_, _, _, hc⟩
  · rcases hb with hb | ⟨f, hf, hb⟩
    · obtain ⟨cs, hc⟩ := own_type (h.each x hx).1.1.1 hb
      exact ⟨_, _, _, hc⟩
    · obtain ⟨cs, hc⟩ := own_type ((h.each x hx).1.1.2 f hf) hb
      exact ⟨_, _, _, hc⟩

theorem DirM.noIter {n0 : Nat} {W : World} {g m n : Nat} {G : Ky → Cm} {D : List RowD} (h : DirM n0 W g m n G D) {b : Nat} (hb : BlkD g m G D b) {x : Option Nat} {s : Nat} {a : Array Nat} {c : Nat} : W.heap[b]? ≠ some (.mapIter x s a c) := by
  intro he
  rcases hb with rfl | rfl | ⟨k, hk, hb⟩
  · obtain ⟨cs, t, fz, hc⟩ := cell_cells h.cell
    rw [hc] at he; cases he
  · obtain ⟨es, cl, hc⟩ := h.map.obj
    rw [hc] at he; cases he
  · obtain ⟨cs, t, fz, hc⟩ := (h.prg k hk).1.cells hb
    rw [hc] at he; cases he

theorem dir_ext {D E : List RowD} (hD : OkD D) (hE : OkD E) (hk : E.map Prod.fst = D.map Prod.fst) (ho : ∀ k, ofD E k = ofD D k) : E = D := by
  have e : ∀ {X : List RowD}, OkD X → X = (X.map Prod.fst).map fun k => (k, ofD X k) := fun {X} hX => by
    rw [List.map_map]
    refine (List.map_id X).symm.trans (List.map_congr_left fun r hr => ?_)
    show r = (r.1, ofD X r.1)
    rw [ofD_mem hX hr]
  rw [e hD, e hE, hk]
  exact List.map_congr_left fun k _ => by rw [ho]

theorem setD_there {k : Ky} {l : List Vr} {D : List RowD} (h : OkD D) (hk : ofD D k ≠ []) : (setD k l D).map Prod.fst = D.map Prod.fst := by
  rw [setD_keys]
  exact insR_there totK h.rise ((there_iff h k).2 hk)

/-- A prune under way: the chains of the keys that have come are pruned. -/
def PrIn (n0 : Nat) (W : World) (g m n : Nat) (G : Ky → Cm) (D : List RowD) (f : Int) (r : Nat) (seen : List Ky) (cnt : Nat) (wr : World) : Prop :=
  ∃ G' D', RangeD wr m r n (fOf G D) seen cnt ∧ DirM n0 wr g m n G' D' ∧ D'.map Prod.fst = D.map Prod.fst ∧ (∀ k ∈ seen, ofD D' k = pruneV (ofD D k) f) ∧ (∀ k, k ∉ seen → ofD D' k = ofD D k) ∧
    (∀ b, BlkD g m G' D' b → BlkD g m G D b ∨ W.heap.size ≤ b) ∧ Fr (BlkD g m G D) W wr

theorem PrIn.range {n0 : Nat} {W : World} {g m n : Nat} {G : Ky → Cm} {D : List RowD} {f : Int} {r : Nat} {seen : List Ky} {cnt : Nat} {wr : World} (h : PrIn n0 W g m n G D f r seen cnt wr) : RangeD wr m r n (fOf G D) seen cnt := by
  obtain ⟨_, _, h, _⟩ := h
  exact h

theorem prune_num (l : List Vr) (f : Int) : (lastV (pruneV l f)).num = (lastV l).num := by
  by_cases e : l = []
  · subst e; rfl
  · have h1 := prune_last l f
    unfold lastV
    rw [h1]

/-- The next key has come: its chain's Prune. -/
theorem pr_chain {n0 : Nat} {W : World} {g m n : Nat} {G : Ky → Cm} {D : List RowD} {f : Int} {r : Nat} {seen : List Ky} {cnt cnt2 : Nat} {wr w2 : World} (hD : OkD D) (h : PrIn n0 W g m n G D f r seen cnt wr) (hr : W.heap.size ≤ r) {k : Ky} {b : Nat} (hkf : FitK k) (hks : k ∉ seen) (hfb : fOf G D k = some b)
    (hr2 : RangeD w2 m r n (fOf G D) (seen ++ [k]) cnt2) (hg2 : wr.grownBy w2 (some r)) :
    Calls Tryz.prog 56 #[.pointer (some ⟨b, 0, none⟩), .int .u64 f] w2 fun e w3 => e = .returned (.int .i64 (pruneN (ofD D k) f : Nat)) ∧ PrIn n0 W g m n G D f r (seen ++ [k]) cnt2 w3 := by
  obtain ⟨G', D', a1, a2, a3, a4, a5, a6, a7⟩ := h
  obtain ⟨si, sn, sc, hit⟩ := a1.iter
  have f2 : Fr (fun x => x = r) wr w2 := Fr.of_grown hg2 fun x hx => by injection hx with hx; exact hx.symm
  have hD2 : DirM n0 w2 g m n G' D' := a2.fr f2 fun x hx e => by subst e; exact a2.noIter hx hit
  have hne : ofD D k ≠ [] := fOf_iff.1 (by rw [hfb]; rfl)
  have hok' : ofD D' k = ofD D k := a5 k hks
  have hne' : ofD D' k ≠ [] := by rw [hok']; exact hne
  have hgb : (G' k).g = b := by
    have := MapD.uniq hD2.map hr2.map hkf
    rw [fOf_some hne', hfb] at this
    injection this
  have hp := (hD2.prg k hne').1
  have hv := (hD2.prg k hne').2
  rw [← hgb]
  refine (prune_any hp f).mono ?_
  rintro e w3 ⟨rfl, ht⟩
  rw [hv, hok'] at ht ⊢
  refine ⟨rfl, ?_⟩
  obtain ⟨si2, sn2, sc2, hit2⟩ := hr2.iter
  have hf3 : Fr (BlkC (G' k).g (G' k).d (G' k).vs) w2 w3 := by obtain ⟨_, _, _, _, _, f⟩ := ht; exact f
  have hm3 : w3.heap[m]? = w2.heap[m]? := hf3.block m hD2.map.lt fun hb => (hD2.off k hne' m hb).2 rfl
  have hi3 : w3.heap[r]? = w2.heap[r]? := hf3.block r hr2.lt fun hb => hD2.noIter (Or.inr (Or.inr ⟨k, hne', hb⟩)) hit2
  have hcnt := setD_count k (pruneV (ofD D k) f) hD2.ok
  have hlen := prune_len (ofD D k) f
  have hfew := hD2.few
  have hnum := hD2.num k
  rw [hok'] at hcnt hnum
  have hokk : OkV (pruneV (ofD D k) f) := ok_prune (ofD_ok hD k) f
  obtain ⟨G2, b1, b2, b3⟩ := dirM_set hD2 k (G' k) (Or.inl ⟨hne', rfl⟩) ht (Fr.refl _ _) ((hD2.map.on hm3).congr fun y _ => by
      by_cases e : y = k
      · subst e; rw [if_pos rfl, fOf_some hne']
      · rw [if_neg e]) (prune_ne hne f) (hD2.key k hne') hokk (by rw [prune_num]; exact hnum) (by omega) (Nat.le_refl n)
  have hs2 := a7.size
  have hs2' := f2.size
  refine ⟨G2, _, hr2.on hm3 hi3, b1, (setD_there hD2.ok hne').trans a3, fun y hy => ?_, fun y hy => ?_, fun x hx => ?_, ?_⟩
  · rw [setD_of]
    rcases List.mem_append.1 hy with hy | hy
    · rw [if_neg (fun e => hks (by rw [← e]; exact hy))]
      exact a4 y hy
    · rw [List.mem_singleton] at hy
      subst hy
      rw [if_pos rfl]
  · rw [List.mem_append, not_or, List.mem_singleton] at hy
    rw [setD_of, if_neg hy.2]
    exact a5 y hy.1
  · rcases b2 x hx with h | h | h
    · exact a6 x h
    · exact a6 x (Or.inr (Or.inr ⟨k, hne', h⟩))
    · exact Or.inr (by omega)
  · refine Fr.then (Fr.then a7 f2 fun x hx => ?_) b3 fun x hx => ?_
    · right; rw [hx]; exact hr
    · rcases hx with rfl | hx
      · exact a6 x (Or.inr (Or.inl rfl))
      · exact a6 x (Or.inr (Or.inr ⟨k, hne', hx⟩))

theorem pr_start {n0 : Nat} {W w1 : World} {g m n : Nat} {G : Ky → Cm} {D : List RowD} (h : DirM n0 W g m n G D) (f : Int) {r cnt : Nat} (hr : RangeD w1 m r n (fOf G D) [] cnt) (hb : Below W.heap.size W w1) : PrIn n0 W g m n G D f r [] cnt w1 :=
  ⟨G, D, hr, h.on hb, rfl, fun k hk => by simp at hk, fun _ _ => rfl, fun _ hb => Or.inl hb, Fr.of_below hb⟩

theorem pr_end {n0 : Nat} {W wr : World} {g m n : Nat} {G : Ky → Cm} {D : List RowD} (hM : DirM n0 W g m n G D) {f : Int} {r : Nat} {seen : List Ky} {cnt : Nat} (h : PrIn n0 W g m n G D f r seen cnt wr) (hall : ∀ k, FitK k → (fOf G D k).isSome = true → k ∈ seen) : TurnD n0 W g m G D n (pruneD D f) wr := by
  obtain ⟨G', D', a1, a2, a3, a4, a5, a6, a7⟩ := h
  have e : D' = pruneD D f := by
    refine dir_ext (okD_prune hM.ok f) a2.ok (by rw [a3, pruneD_keys]) fun k => ?_
    rw [pruneD_of]
    by_cases hk : ofD D k = []
    · have hns : k ∉ seen := fun hs => (fOf_iff.1 (a1.nodup.2.1 k hs).2) hk
      rw [a5 k hns, hk]
      rfl
    · exact a4 k (hall k (key_fit (hM.key k hk)) (fOf_iff.2 hk))
  subst e
  exact ⟨G', a2, a6, a7⟩

set_option maxHeartbeats 2000000 in
set_option maxRecDepth 100000 in
theorem dprune_any {n0 : Nat} {W : World} {g m n : Nat} {G : Ky → Cm} {D : List RowD} (h : DirM n0 W g m n G D) (hn : n ≤ 2400000000000) (f : Int) :
    Calls Tryz.prog 28 #[.pointer (some ⟨g, 0, none⟩), .int .u64 f] W fun e w' => e = .returned (.int .i64 (goneD D f : Nat)) ∧ TurnD n0 W g m G D n (pruneD D f) w' := by
  have HAL := hid (all_is g m W h.cell)
  have hM := h.map
  have HH := hid h
  have HSUM : Hid (∀ seen : List Ky, seen.Nodup → (∀ k ∈ seen, FitK k ∧ (fOf G D k).isSome = true) → (seen.map fun k => pruneN (ofD D k) f).sum ≤ 2400000000000) := fun seen h1 h2 => by
    have := seen_some HH.out.ok (fun l => pruneN l f) h1 fun k hk => fOf_iff.1 (h2 k hk).2
    have h3 := HH.out.few
    have h4 := pruneD_count D f
    unfold goneD at h4
    omega
  have HEND : Hid (∀ seen : List Ky, seen.Nodup → (∀ k ∈ seen, FitK k ∧ (fOf G D k).isSome = true) → (∀ k, FitK k → (fOf G D k).isSome = true → k ∈ seen) → (seen.map fun k => pruneN (ofD D k) f).sum = goneD D f) := fun seen h1 h2 h3 =>
    seen_all HH.out.ok (fun l => pruneN l f) h1 (fun k hk => fOf_iff.1 (h2 k hk).2) fun k hk => h3 k (key_fit (HH.out.key k hk)) (fOf_iff.2 hk)
  obtain ⟨N, hN⟩ : ∃ N, W.heap.size = N := ⟨_, rfl⟩
  clear h
  go_enter Tryz.func28, Tryz.ntmps28
  go_wp2_with fail
  refine HAL.out.mono ?_
  rintro e w0 ⟨rfl, rfl⟩
  go_wp2_with (at_range; refine wp_range_D _ rfl _ rfl m n (fOf G D) rfl hM ?_; intro w1 cnt0 hr0 hg0 hs0)
  go_frame
  try rw [hN] at hr0
  try rw [hN]
  have HB0 : Hid (Below w0.heap.size w0 w1) := by
    have := Fr.of_grown (P := fun _ => False) hg0 fun k hk => by cases hk
    exact this.below (Nat.le_refl _) fun k hk => hk.elim
  have HR0 := hid (pr_start HH.out f hr0 HB0.out)
  clear hr0 hg0 hs0 HAL hM HB0
  go_loopg [5] cnt0 (fun gg vn wr => ∃ (seen : List Ky) (cnt : Nat), vn = .int .i64 ((seen.map fun k => pruneN (ofD D k) f).sum : Nat) ∧ cnt ≤ gg ∧ Hid (PrIn n0 w0 g m n G D f N seen cnt wr))
  case atStart => exact ⟨[], cnt0, rfl, Nat.le_refl _, HR0.out⟩
  case round =>
    clear HR0
    obtain ⟨seen, cnt, rfl, hgk, HR⟩ := hrel
    have hr := HR.out.range
    have hnd := hr.nodup
    go_wp2_with (at_next; refine wp_next_D _ rfl _ rfl m N n (fOf G D) seen cnt rfl hr ?_ ?_)
    · intro hall
      have HE := hid (HEND.out seen hnd.1 hnd.2.1 fun k h1 h2 => hall k.1 k.2 h1 h2)
      have HT := hid (pr_end HH.out HR.out fun k h1 h2 => hall k.1 k.2 h1 h2)
      clear hall hr hnd
      go_wp2_with fail
      go_ret
      rw [HE.out]
      exact ⟨rfl, HT.out⟩
    · intro ka kb b w2 cnt2 hkf hks hfb hr2 hlt hg2 hs2 hen
      obtain ⟨k, hkk⟩ : ∃ k : Ky, (ka, kb) = k := ⟨_, rfl⟩
      rw [hkk] at hkf hks hfb hr2
      have HL := hid (pr_chain HH.out.ok HR.out (by omega) hkf hks hfb hr2 hg2)
      have hb3 := HSUM.out (seen ++ [k]) hr2.nodup.1 hr2.nodup.2.1
      rw [count_snoc] at hb3
      have HE3 := hid (count_snoc (fun k => pruneN (ofD D k) f) seen k)
      obtain ⟨sm, hsm⟩ : ∃ sm, (seen.map fun k => pruneN (ofD D k) f).sum = sm := ⟨_, rfl⟩
      obtain ⟨ln, hln⟩ : ∃ ln, pruneN (ofD D k) f = ln := ⟨_, rfl⟩
      rw [hsm, hln] at hb3 HE3
      rw [hsm]
      rw [hln] at HL
      have e1 : IntKind.i64.wrap ((sm : Int) + (ln : Int)) = ((sm + ln : Nat) : Int) := by rw [IntKind.wrap_i64]; omega
      subst hkk
      simp only [valK, mkP, Option.map_some] at hen HL ⊢
      clear hr hr2 hnd hg2 hfb hsm hln hkf hks
      go_wp2_with fail
      refine HL.out.mono ?_
      rintro e w3 ⟨rfl, hp3⟩
      have HP3 := hid hp3
      clear hp3
      go_wp2_with fail
      go_roundg cnt2
      case measure => omega
      exact ⟨seen ++ [(ka, kb)], cnt2, by rw [HE3.out]; go_num, Nat.le_refl _, HP3.out⟩

end Go.Proofs.YticfpkodoghnnaaGreat

/-
  The plain mathematics of terms: which may be, their order, and what is normal.
-/
namespace Go.Proofs.YticfpkodoghnnaaGreat
open Go.RowKit

/-- A term: its field's name, its operator, its text. -/
abbrev Tm := ByteArray × Int × ByteArray

def encM (x : Tm) : List Value := [.string x.1, .int .i64 x.2.1, .string x.2.2]

def KM : Kind Tm := ⟨141, 3, encM, fun _ => rfl, by decide, fun x u hu => by simp [encM] at hu; rcases hu with rfl | rfl | rfl <;> rfl⟩

/-- Terms that a machine can hold. -/
def FitM (p : List Tm) : Prop := p.length ≤ maxLen ∧ ∀ x ∈ p, x.1.size ≤ maxLen ∧ x.2.2.size ≤ maxLen ∧ -9223372036854775808 ≤ x.2.1 ∧ x.2.1 ≤ 9223372036854775807

def rightM (x : Tm) : Bool := decide (1 ≤ x.2.1) && decide (x.2.1 ≤ 7) && (decide (x.2.1 < 6) || decide (x.2.2.size = 0))
def namedM (x : Tm) : Bool := fieldB x.1.data.toList
def shortM (x : Tm) : Bool := decide (x.2.2.size ≤ 128)
/-- What May answers. -/
def mayM (p : List Tm) : Int := if 8 < p.length then 5 else if p.all namedM = false then 2 else if p.all rightM = false then 1 else if p.all shortM = false then 5 else 0

/-- The order of terms. -/
def ltM (a b : Tm) : Bool := if a.1 ≠ b.1 then ltB a.1 b.1 else if a.2.1 ≠ b.2.1 then decide (a.2.1 < b.2.1) else ltB a.2.2 b.2.2

theorem ltM_irrefl (a : Tm) : ltM a a = false := by simp [ltM, ltB_irrefl]

theorem ltB_eq_false {a b : ByteArray} (h : ltB a b = true) : a ≠ b := by
  rintro rfl
  rw [ltB_irrefl] at h
  cases h

theorem ltM_cases (a b : Tm) : ltM a b = true ∨ a = b ∨ ltM b a = true := by
  obtain ⟨a1, a2, a3⟩ := a
  obtain ⟨b1, b2, b3⟩ := b
  unfold ltM
  simp only
  by_cases h1 : a1 = b1
  · subst h1
    by_cases h2 : a2 = b2
    · subst h2
      rcases ltB_cases a3 b3 with h | h | h
      · left; simpa using h
      · right; left; rw [h]
      · right; right; simpa using h
    · have h2' : b2 ≠ a2 := fun e => h2 e.symm
      rcases Int.lt_or_gt_of_ne h2 with h | h
      · left; simp [h2, h]
      · right; right; simp [h2', h]
  · have h1' : b1 ≠ a1 := fun e => h1 e.symm
    rcases ltB_cases a1 b1 with h | h | h
    · left; simp [h1, h]
    · exact absurd h h1
    · right; right; simp [h1', h]

theorem ltM_trans {a b c : Tm} (h : ltM a b = true) (k : ltM b c = true) : ltM a c = true := by
  obtain ⟨a1, a2, a3⟩ := a
  obtain ⟨b1, b2, b3⟩ := b
  obtain ⟨c1, c2, c3⟩ := c
  unfold ltM at *
  simp only at *
  by_cases h1 : a1 = b1
  · subst h1
    by_cases k1 : a1 = c1
    · subst k1
      simp only [ne_eq, not_true_eq_false, if_false] at *
      by_cases h2 : a2 = b2
      · subst h2
        by_cases k2 : a2 = c2
        · subst k2
          simp only [not_true_eq_false, if_false] at *
          exact ltB_trans h k
        · simp only [not_true_eq_false, if_false, k2, not_false_eq_true, if_true] at *
          exact k
      · by_cases k2 : b2 = c2
        · subst k2
          simp only [h2, not_false_eq_true, if_true] at *
          exact h
        · simp only [h2, k2, not_false_eq_true, if_true, decide_eq_true_eq] at h k
          have h3 : a2 ≠ c2 := by omega
          simp only [h3, not_false_eq_true, if_true, decide_eq_true_eq]
          omega
    · simp only [ne_eq, k1, not_false_eq_true, if_true] at *
      exact k
  · by_cases k1 : b1 = c1
    · subst k1
      simp only [ne_eq, h1, not_false_eq_true, if_true] at *
      exact h
    · simp only [ne_eq, h1, k1, not_false_eq_true, if_true] at h k
      have h3 : ltB a1 c1 = true := ltB_trans h k
      have h4 : a1 ≠ c1 := ltB_eq_false h3
      simp only [ne_eq, h4, not_false_eq_true, if_true]
      exact h3

theorem ltM_asymm {a b : Tm} (h : ltM a b = true) : ltM b a = false := by
  cases k : ltM b a with
  | false => rfl
  | true =>
    have := ltM_trans h k
    rw [ltM_irrefl] at this
    cases this

theorem ltM_ne {a b : Tm} (h : ltM a b = true) : a ≠ b := by
  rintro rfl
  rw [ltM_irrefl] at h
  cases h

def RisingM (l : List Tm) : Prop := l.Pairwise fun x y => ltM x y = true

/-- Rising lists of the same terms are one. -/
theorem rising_unique : ∀ (a b : List Tm), RisingM a → RisingM b → (∀ x, x ∈ a ↔ x ∈ b) → a = b
  | [], [], _, _, _ => rfl
  | [], y :: b, _, _, h => by have := (h y).2 (by simp); simp at this
  | x :: a, [], _, _, h => by have := (h x).1 (by simp); simp at this
  | x :: a, y :: b, ha, hb, h => by
    have ha' := List.pairwise_cons.1 ha
    have hb' := List.pairwise_cons.1 hb
    have hxy : x = y := by
      rcases List.mem_cons.1 ((h x).1 (by simp)) with e | e
      · exact e
      · rcases List.mem_cons.1 ((h y).2 (by simp)) with e2 | e2
        · exact e2.symm
        · have h1 := hb'.1 x e
          have h2 := ha'.1 y e2
          rw [ltM_asymm h1] at h2
          cases h2
    subst hxy
    congr 1
    refine rising_unique a b ha'.2 hb'.2 fun z => ⟨fun hz => ?_, fun hz => ?_⟩
    · rcases List.mem_cons.1 ((h z).1 (by simp [hz])) with e | e
      · exact absurd e.symm (ltM_ne (ha'.1 z hz))
      · exact e
    · rcases List.mem_cons.1 ((h z).2 (by simp [hz])) with e | e
      · exact absurd e.symm (ltM_ne (hb'.1 z hz))
      · exact e

/-- x put where it belongs, if it isn't there. -/
def insM (x : Tm) : List Tm → List Tm
  | [] => [x]
  | y :: l => if ltM x y then x :: y :: l else if x = y then y :: l else y :: insM x l

/-- The terms, rising, each once. -/
def sortM (p : List Tm) : List Tm := p.foldl (fun acc x => insM x acc) []

theorem mem_insM (x z : Tm) (l : List Tm) : z ∈ insM x l ↔ z = x ∨ z ∈ l := by
  induction l with
  | nil => simp [insM]
  | cons y l ih =>
    unfold insM
    split
    · simp
    · split
      · rename_i h; subst h; simp
      · simp [ih, or_left_comm]

theorem insM_rising (x : Tm) (l : List Tm) (h : RisingM l) : RisingM (insM x l) := by
  induction l with
  | nil => exact List.pairwise_singleton _ _
  | cons y l ih =>
    have h' := List.pairwise_cons.1 h
    unfold insM
    split
    · rename_i hlt
      refine List.pairwise_cons.2 ⟨fun z hz => ?_, h⟩
      rcases List.mem_cons.1 hz with rfl | hz
      · exact hlt
      · exact ltM_trans hlt (h'.1 z hz)
    · rename_i hlt
      split
      · exact h
      · rename_i hne
        refine List.pairwise_cons.2 ⟨fun z hz => ?_, ih h'.2⟩
        rcases (mem_insM x z l).1 hz with rfl | hz
        · rcases ltM_cases z y with h1 | h1 | h1
          · exact absurd h1 hlt
          · exact absurd h1 hne
          · exact h1
        · exact h'.1 z hz

theorem sortM_spec (p : List Tm) : RisingM (sortM p) ∧ ∀ x, x ∈ sortM p ↔ x ∈ p := by
  have : ∀ (l acc : List Tm), RisingM acc → RisingM (l.foldl (fun acc x => insM x acc) acc) ∧ ∀ x, x ∈ l.foldl (fun acc x => insM x acc) acc ↔ x ∈ acc ∨ x ∈ l := by
    intro l
    induction l with
    | nil => intro acc h; exact ⟨h, fun x => by simp⟩
    | cons y l ih =>
      intro acc h
      obtain ⟨h1, h2⟩ := ih (insM y acc) (insM_rising y acc h)
      refine ⟨h1, fun x => ?_⟩
      rw [List.foldl_cons, h2, mem_insM, List.mem_cons]
      constructor
      · rintro ((h | h) | h)
        · exact Or.inr (Or.inl h)
        · exact Or.inl h
        · exact Or.inr (Or.inr h)
      · rintro (h | h | h)
        · exact Or.inl (Or.inr h)
        · exact Or.inl (Or.inl h)
        · exact Or.inr h
  obtain ⟨h1, h2⟩ := this p [] List.Pairwise.nil
  exact ⟨h1, fun x => by rw [sortM, h2]; simp⟩

theorem sortM_unique {p l : List Tm} (h1 : RisingM l) (h2 : ∀ x, x ∈ l ↔ x ∈ p) : l = sortM p :=
  rising_unique _ _ h1 (sortM_spec p).1 fun x => (h2 x).trans ((sortM_spec p).2 x).symm

theorem sortM_len (p : List Tm) : (sortM p).length ≤ p.length := by
  have key : ∀ (x : Tm) (l : List Tm), (insM x l).length ≤ l.length + 1 := by
    intro x l
    induction l with
    | nil => simp [insM]
    | cons y l ih =>
      unfold insM
      split
      · simp
      · split
        · simp
        · simp; omega
  have : ∀ (l acc : List Tm), (l.foldl (fun acc x => insM x acc) acc).length ≤ acc.length + l.length := by
    intro l
    induction l with
    | nil => intro acc; simp
    | cons y l ih =>
      intro acc
      have h1 := ih (insM y acc)
      have h2 := key y acc
      rw [List.foldl_cons, List.length_cons]
      omega
  simpa [sortM] using this p []

theorem mayM_perm {p q : List Tm} (h : ∀ x, x ∈ p ↔ x ∈ q) (hl : p.length ≤ 8) (hm : q.length ≤ 8) : mayM p = mayM q := by
  have key : ∀ f : Tm → Bool, p.all f = q.all f := fun f => by
    rw [Bool.eq_iff_iff, List.all_eq_true, List.all_eq_true]
    exact ⟨fun H x hx => H x ((h x).2 hx), fun H x hx => H x ((h x).1 hx)⟩
  unfold mayM
  rw [if_neg (show ¬ 8 < p.length by omega), key namedM, key rightM, key shortM, if_neg (show ¬ 8 < q.length by omega)]

/-- What Norm answers. -/
def ansM (p : List Tm) : List Tm := if mayM p = 0 then sortM p else []

theorem mayM_zero {p : List Tm} (h : mayM p = 0) : p.length ≤ 8 ∧ p.all namedM = true ∧ p.all rightM = true ∧ p.all shortM = true := by
  unfold mayM at h
  split at h
  · omega
  · rename_i h1
    split at h
    · omega
    · rename_i h2
      split at h
      · omega
      · rename_i h3
        split at h
        · omega
        · rename_i h4
          exact ⟨by omega, by simpa using h2, by simpa using h3, by simpa using h4⟩

end Go.Proofs.YticfpkodoghnnaaGreat

/-
  The contracts of the reference's class and Field.
-/
namespace Go.Proofs.YticfpkodoghnnaaGreat
open Go.RowKit

def cls (n : Int) : Int := if bigB n then 1 else if smallB n then 2 else if digB n then 3 else if n = 45 ∨ n = 46 then 4 else 0

theorem cls_cases (n : Int) :
    (cls n = 1 ∧ bigB n = true ∧ smallB n = false ∧ letB n = true ∧ lodB n = true ∧ idB n = true) ∨
    (cls n = 2 ∧ bigB n = false ∧ smallB n = true ∧ letB n = true ∧ lodB n = true ∧ idB n = true) ∨
    (cls n = 3 ∧ bigB n = false ∧ smallB n = false ∧ letB n = false ∧ lodB n = true ∧ idB n = true) ∨
    (cls n = 4 ∧ bigB n = false ∧ smallB n = false ∧ letB n = false ∧ lodB n = false ∧ idB n = true) ∨
    (cls n = 0 ∧ bigB n = false ∧ smallB n = false ∧ letB n = false ∧ lodB n = false ∧ idB n = false) := by
  cases h1 : bigB n
  · cases h2 : smallB n
    · cases h3 : digB n
      · by_cases h4 : n = 45 ∨ n = 46
        · right; right; right; left
          refine ⟨by simp [cls, h1, h2, h3, h4], rfl, rfl, by simp [letB, h1, h2], by simp [lodB, letB, h1, h2, h3], ?_⟩
          rcases h4 with rfl | rfl <;> decide
        · right; right; right; right
          have h45 : (n == 45) = false := beq_eq_false_iff_ne.2 fun e => h4 (.inl e)
          have h46 : (n == 46) = false := beq_eq_false_iff_ne.2 fun e => h4 (.inr e)
          exact ⟨by simp [cls, h1, h2, h3, h4], rfl, rfl, by simp [letB, h1, h2], by simp [lodB, letB, h1, h2, h3], by simp [idB, lodB, letB, h1, h2, h3, h45, h46]⟩
      · right; right; left
        exact ⟨by simp [cls, h1, h2, h3], rfl, rfl, by simp [letB, h1, h2], by simp [lodB, h3], by simp [idB, lodB, h3]⟩
    · right; left
      exact ⟨by simp [cls, h1, h2], rfl, rfl, by simp [letB, h2], by simp [lodB, letB, h2], by simp [idB, lodB, letB, h2]⟩
  · left
    have h2 : smallB n = false := by
      rw [bigB_true] at h1
      rw [Bool.eq_false_iff, Ne, smallB_true]; omega
    exact ⟨by simp [cls, h1], rfl, h2, by simp [letB, h1], by simp [lodB, letB, h1], by simp [idB, lodB, letB, h1]⟩

set_option maxHeartbeats 400000 in
theorem class_any (n : Int) (w : World) : Calls Tryz.prog 109 #[.int .u8 n] w fun e w' => e = .returned (.int .i64 (cls n)) ∧ w' = w := by
  go_enter Tryz.func109, Tryz.ntmps109
  go_wp2
  all_goals go_ret
  all_goals refine ⟨ret_int ?_, rfl⟩
  all_goals (simp_all [cls, bigB, smallB, digB]; try omega)

set_option maxHeartbeats 1000000 in
theorem rfield_any (s : ByteArray) (w : World) (hs : s.size ≤ maxLen) :
    Calls Tryz.prog 110 #[.string s] w fun e w' => e = .returned (.bool (fieldB s.data.toList)) ∧ w' = w := by
  unfold maxLen at hs
  have HE := hid (spell_empty smallB lodB s)
  have HG := hid (spell_long smallB lodB s)
  have HF := hid (spell_first smallB lodB s)
  have HA := hid (spell_at smallB lodB s)
  have HT := hid (spell_true smallB lodB s)
  have HB : Hid (fieldB s.data.toList = spell smallB lodB s.data.toList) := rfl
  go_enter Tryz.func110, Tryz.ntmps110
  go_wp2
  go_loop [3] (fun i => ∃ k : Nat, k ≤ s.size ∧ i = .int .i64 k ∧ (∀ j, j < k → (hj : j < s.size) → (j = 0 → smallB (s[j].toNat : Int) = true) ∧ (1 ≤ j → lodB (s[j].toNat : Int) = true))) (fun i => s.size - (intOf i).toNat)
  case atStart => exact ⟨0, by omega, rfl, fun j h => by omega⟩
  case round =>
    obtain ⟨k, hk, rfl, hall⟩ := hrel
    have HL := hid hall
    clear hall
    by_cases hlt : k < s.size
    · rcases Nat.eq_zero_or_pos k with h0 | h0
      · have HZ := hid h0
        have hz : ((k : Int) == 0) = true := by rw [h0]; rfl
        clear h0
        rcases cls_cases (s[k].toNat : Int) with h | h | h | h | h
        all_goals
          have HC := hid h
          clear h
          go_wp2_with (go_at_call 109; refine (class_any _ _).mono ?_; rintro e w' ⟨rfl, rfl⟩; rw [HC.out.1])
          first
          | (go_ret; exact ⟨ret_bool (by rw [HB.out]; have hz' := HZ.out; subst hz'; exact (HF.out hlt (by first | exact HC.out.2.1 | exact HC.out.2.2.1 | exact HC.out.2.2.2.2.1 | exact HC.out.2.2.2.2.2)).symm), rfl⟩)
          | (go_round
             case rel =>
               refine ⟨k + 1, by omega, by go_num, fun j h1 hj => ?_⟩
               have hz' := HZ.out
               have hj0 : j = k := by omega
               subst hj0
               exact ⟨fun _ => (by first | exact HC.out.2.1 | exact HC.out.2.2.1 | exact HC.out.2.2.2.2.1 | exact HC.out.2.2.2.2.2), fun _ => by omega⟩
             case measure => simp [intOf]; omega)
      · have HZ := hid h0
        have hz : ((k : Int) == 0) = false := by rw [beq_eq_false_iff_ne]; omega
        clear h0
        rcases cls_cases (s[k].toNat : Int) with h | h | h | h | h
        all_goals
          have HC := hid h
          clear h
          go_wp2_with (go_at_call 109; refine (class_any _ _).mono ?_; rintro e w' ⟨rfl, rfl⟩; rw [HC.out.1])
          first
          | (go_ret; exact ⟨ret_bool (by rw [HB.out]; exact (HA.out k HZ.out hlt (by first | exact HC.out.2.2.2.1 | exact HC.out.2.2.2.2.1 | exact HC.out.2.2.2.2.2)).symm), rfl⟩)
          | (go_round
             case rel =>
               refine ⟨k + 1, by omega, by go_num, fun j h1 hj => ?_⟩
               by_cases hjk : j = k
               · subst hjk
                 exact ⟨fun e => by have := HZ.out; omega, fun _ => (by first | exact HC.out.2.2.2.1 | exact HC.out.2.2.2.2.1 | exact HC.out.2.2.2.2.2)⟩
               · exact HL.out j (by omega) hj
             case measure => simp [intOf]; omega)
    · have hks : k = s.size := by omega
      rcases Nat.eq_zero_or_pos s.size with hz | hz
      · have hn : ¬ (0 : Int) < (s.size : Int) := by omega
        have HZ := hid hz
        clear hz hks
        go_wp2_with fail
        go_ret
        exact ⟨ret_bool (by rw [HB.out]; exact (HE.out HZ.out).symm), rfl⟩
      · have hn : (0 : Int) < (s.size : Int) := by omega
        by_cases hm : s.size ≤ 32
        · have hm' : (s.size : Int) ≤ 32 := by omega
          have HK := hid hks
          clear hks
          go_wp2_with fail
          go_ret
          refine ⟨ret_bool (by rw [HB.out]; exact (HT.out hz hm ((HL.out 0 (by have := HK.out; omega) hz).1 rfl) (fun j h1 hj => (HL.out j (by have := HK.out; omega) hj).2 h1)).symm), rfl⟩
        · have hm' : ¬ (s.size : Int) ≤ 32 := by omega
          clear hks
          go_wp2_with fail
          go_ret
          exact ⟨ret_bool (by rw [HB.out]; exact (HG.out (by omega)).symm), rfl⟩

end Go.Proofs.YticfpkodoghnnaaGreat

/-
  The contracts of the reference's less, May and Same of terms.
-/
namespace Go.Proofs.YticfpkodoghnnaaGreat
open Go.RowKit

theorem km_cells {w : World} {b off : Nat} {p : List Tm} (h : KM.At w b off p) (i : Nat) (hi : i < p.length) :
    w.cell? ⟨b, off + i * 3, none⟩ = some (.string (p[i]).1) ∧ w.cell? ⟨b, off + i * 3 + 1, none⟩ = some (.int .i64 (p[i]).2.1) ∧ w.cell? ⟨b, off + i * 3 + 2, none⟩ = some (.string (p[i]).2.2) :=
  ⟨h i hi 0 _ rfl, h i hi 1 _ rfl, h i hi 2 _ rfl⟩

theorem all_snoc {p : List Tm} {f : Tm → Bool} {i : Nat} (h : i < p.length) : (p.take (i + 1)).all f = ((p.take i).all f && f p[i]) := by
  rw [List.take_succ_eq_append_getElem h, List.all_append]
  simp

end Go.Proofs.YticfpkodoghnnaaGreat

/-
  The contracts of the reference's Same and Norm of terms.
-/
namespace Go.Proofs.YticfpkodoghnnaaGreat
open Go.RowKit

theorem Tryz.infoTrm : (Tryz.prog.info? 141).map (fun i => (i.zero, i.size, i.bytes)) = some (some (.agg #[.string ⟨#[]⟩, .int .i64 0, .string ⟨#[]⟩]), 3, 40) := by kernel_rfl

theorem neq_term (a b : Tm) (w : World) : (binOp .neq 141 (.agg #[.string a.1, .int .i64 a.2.1, .string a.2.2]) (.agg #[.string b.1, .int .i64 b.2.1, .string b.2.2])).run Tryz.prog w = .ok (.bool (!decide (a = b))) w := by
  obtain ⟨a1, a2, a3⟩ := a
  obtain ⟨b1, b2, b3⟩ := b
  have hS : Tryz.prog.underlying 141 = some (.struct (Tryz.prog.fieldsOf 141)) := by kernel_rfl
  have hp : Tryz.prog.stoodInHeld 141 = false := by kernel_rfl
  have u9 := Tryz.underlying9
  have a9 := Tryz.isAgg9
  have z9 := Tryz.sizeOf9
  have u3 := Tryz.underlying3
  have a3' := Tryz.isAgg3
  have z3 := Tryz.sizeOf3
  rw [run_neq_struct, show (10000 : Nat) = 9999 + 1 from rfl, run_equalIn_agg w 9999 141 _ _ hS hp]
  simp only [Program.fieldsOf, Tryz.underlying141]
  go_simp
  by_cases h1 : a1 = b1
  · subst h1
    by_cases h2 : a2 = b2
    · subst h2
      by_cases h3 : a3 = b3
      · subst h3; simp
      · have e3 := beq_eq_false_iff_ne.1 (seq_false h3)
        simp [h3, e3]
    · simp [h2]
  · have e1 := beq_eq_false_iff_ne.1 (seq_false h1)
    simp [h1, e1]

/-- May x stand behind the first k of G? -/
def eligB (G : List Tm) (k : Nat) (x : Tm) : Bool := decide (k = 0) || ltM (G.getD (k - 1) default) x

/-- What the scan has found among the first i: where it stands, or -1. -/
def ScanM (G p : List Tm) (k i : Nat) (at_ : Int) : Prop :=
  (at_ = -1 ∧ ∀ j, (h : j < p.length) → j < i → eligB G k p[j] = false) ∨
  (∃ m : Nat, at_ = m ∧ m < i ∧ ∃ hm : m < p.length, eligB G k p[m] = true ∧ ∀ j, (h : j < p.length) → j < i → eligB G k p[j] = true → ltM p[j] p[m] = false)

theorem RisingM.get {o : List Tm} (h : RisingM o) {i j : Nat} (hij : i < j) (hj : j < o.length) : ltM (o[i]'(by omega)) (o[j]) = true :=
  List.pairwise_iff_getElem.1 h i j (by omega) hj hij

theorem elig_ge {G : List Tm} (h : RisingM G) {k m : Nat} (hk : k ≤ G.length) (hm : m < G.length) : eligB G k G[m] = true ↔ k ≤ m := by
  unfold eligB
  constructor
  · intro he
    rw [Bool.or_eq_true] at he
    rcases he with he | he
    · have := of_decide_eq_true he; omega
    · refine Nat.le_of_not_lt fun hlt => ?_
      rw [List.getD_eq_getElem?_getD, List.getElem?_eq_getElem (show k - 1 < G.length by omega)] at he
      by_cases e : m = k - 1
      · subst e
        rw [Option.getD_some, ltM_irrefl] at he
        cases he
      · have := h.get (show m < k - 1 by omega) (by omega)
        rw [Option.getD_some] at he
        rw [ltM_asymm this] at he
        cases he
  · intro hkm
    by_cases h0 : k = 0
    · rw [decide_eq_true h0]; rfl
    · rw [Bool.or_eq_true]
      right
      rw [List.getD_eq_getElem?_getD, List.getElem?_eq_getElem (show k - 1 < G.length by omega), Option.getD_some]
      exact h.get (by omega) hm

theorem scan_end {G p : List Tm} (h1 : RisingM G) (h2 : ∀ x, x ∈ G ↔ x ∈ p) {k : Nat} (hk : k ≤ G.length) {at_ : Int} (hs : ScanM G p k p.length at_) :
    (at_ = -1 ∧ k = G.length) ∨ (∃ m : Nat, at_ = m ∧ ∃ hm : m < p.length, ∃ hg : k < G.length, p[m] = G[k]) := by
  rcases hs with ⟨e, hn⟩ | ⟨m, e, _, hm, he, hl⟩
  · left
    refine ⟨e, ?_⟩
    by_cases hkl : k = G.length
    · exact hkl
    · exfalso
      have hlt : k < G.length := by omega
      obtain ⟨j, hj, ej⟩ := List.mem_iff_getElem.1 ((h2 G[k]).1 (List.getElem_mem hlt))
      have := hn j hj hj
      rw [ej, (elig_ge h1 hk hlt).2 (Nat.le_refl _)] at this
      cases this
  · right
    obtain ⟨a, ha, ea⟩ := List.mem_iff_getElem.1 ((h2 p[m]).2 (List.getElem_mem hm))
    have hka : k ≤ a := by
      rw [← ea] at he
      exact (elig_ge h1 hk ha).1 he
    refine ⟨m, e, hm, by omega, ?_⟩
    by_cases hlt : k < a
    · exfalso
      obtain ⟨j, hj, ej⟩ := List.mem_iff_getElem.1 ((h2 G[k]).1 (List.getElem_mem (by omega)))
      have := hl j hj hj (by rw [ej]; exact (elig_ge h1 hk (by omega)).2 (Nat.le_refl _))
      rw [ej, ← ea, h1.get hlt ha] at this
      cases this
    · obtain rfl : a = k := by omega
      exact ea.symm

theorem scan_zero (G p : List Tm) (k : Nat) : ScanM G p k 0 (-1) := Or.inl ⟨rfl, fun j _ h => by omega⟩

theorem scan_skip {G p : List Tm} {k i : Nat} {a : Int} (h : ScanM G p k i a) (hi : i < p.length) (he : eligB G k p[i] = false) : ScanM G p k (i + 1) a := by
  rcases h with ⟨e, hn⟩ | ⟨m, e, hm1, hm, hme, hl⟩
  · refine Or.inl ⟨e, fun j hj hji => ?_⟩
    by_cases ej : j = i
    · subst ej; exact he
    · exact hn j hj (by omega)
  · refine Or.inr ⟨m, e, by omega, hm, hme, fun j hj hji hje => ?_⟩
    by_cases ej : j = i
    · subst ej; rw [he] at hje; cases hje
    · exact hl j hj (by omega) hje

theorem scan_first {G p : List Tm} {k i : Nat} (h : ScanM G p k i (-1)) (hi : i < p.length) (he : eligB G k p[i] = true) : ScanM G p k (i + 1) (i : Int) := by
  rcases h with ⟨_, hn⟩ | ⟨m, e, _⟩
  · refine Or.inr ⟨i, rfl, by omega, hi, he, fun j hj hji hje => ?_⟩
    by_cases ej : j = i
    · subst ej; exact ltM_irrefl _
    · rw [hn j hj (by omega)] at hje; cases hje
  · omega

theorem scan_less {G p : List Tm} {k i m : Nat} (h : ScanM G p k i (m : Int)) (hi : i < p.length) (hm : m < p.length) (he : eligB G k p[i] = true) (hl : ltM p[i] p[m] = true) : ScanM G p k (i + 1) (i : Int) := by
  rcases h with ⟨e, _⟩ | ⟨m', e, _, _, _, hll⟩
  · omega
  · obtain rfl : m = m' := by omega
    refine Or.inr ⟨i, rfl, by omega, hi, he, fun j hj hji hje => ?_⟩
    by_cases ej : j = i
    · subst ej; exact ltM_irrefl _
    · have := hll j hj (by omega) hje
      cases hc : ltM p[j] p[i] with
      | false => rfl
      | true => rw [ltM_trans hc hl] at this; cases this

theorem scan_keep {G p : List Tm} {k i m : Nat} (h : ScanM G p k i (m : Int)) (hi : i < p.length) (hm : m < p.length) (hl : ltM p[i] p[m] = false) : ScanM G p k (i + 1) (m : Int) := by
  rcases h with ⟨e, _⟩ | ⟨m', e, h1, h2, h3, hll⟩
  · omega
  · obtain rfl : m = m' := by omega
    refine Or.inr ⟨m, rfl, by omega, h2, h3, fun j hj hji hje => ?_⟩
    by_cases ej : j = i
    · subst ej; exact hl
    · exact hll j hj (by omega) hje

theorem scan_is {G p : List Tm} {k i : Nat} {a : Int} (h : ScanM G p k i a) : a = -1 ∨ ∃ m : Nat, a = m ∧ m < p.length := by
  rcases h with ⟨e, _⟩ | ⟨m, e, _, hm, _⟩
  · exact Or.inl e
  · exact Or.inr ⟨m, e, hm⟩

end Go.Proofs.YticfpkodoghnnaaGreat

/-
  The contract of the reference's Norm of terms.
-/
namespace Go.Proofs.YticfpkodoghnnaaGreat
open Go.RowKit

/-- What Norm answers, its row at or behind the world's end. -/
def NMPost (w : World) (p : List Tm) (e : Ending) (w' : World) : Prop :=
  (∃ u, e = .returned (.tuple #[u, .int .i64 (mayM p)]) ∧ KM.Own w.heap.size w' u (ansM p)) ∧ Below w.heap.size w w'

theorem km_grown {w W : World} {b off : Nat} {p : List Tm} (h : KM.At w b off p) (hb : Below w.heap.size w W) (i : Nat) (hi : i < p.length) (n : Nat) (os : Array Obj) :
    (Sort.grow (W.drewN n) os).cell? ⟨b, off + i * 3, none⟩ = some (.string (p[i]).1) ∧ (Sort.grow (W.drewN n) os).cell? ⟨b, off + i * 3 + 1, none⟩ = some (.int .i64 (p[i]).2.1) ∧ (Sort.grow (W.drewN n) os).cell? ⟨b, off + i * 3 + 2, none⟩ = some (.string (p[i]).2.2) := by
  have hg := (Grown.refl W).on (q := n) (os := os)
  exact km_cells (Kind.at_kept (Kind.at_kept h hb) hg.below) i hi

theorem own_last {N : Nat} {W : World} {p5 : Option Addr} {c5 k : Nat} {d : List Tm} (h : KM.Own N W (.slice p5 (k + 1) c5) d) (hk : d.length = k + 1) :
    ∃ g, p5 = some ⟨g, 0, none⟩ ∧ ∀ n os, (Sort.grow (W.drewN n) os).cell? ⟨g, k * 3, none⟩ = some (.string (d.getD k default).1) ∧ (Sort.grow (W.drewN n) os).cell? ⟨g, k * 3 + 1, none⟩ = some (.int .i64 (d.getD k default).2.1) ∧ (Sort.grow (W.drewN n) os).cell? ⟨g, k * 3 + 2, none⟩ = some (.string (d.getD k default).2.2) := by
  obtain ⟨p', c', hv, hd⟩ := Kind.own_is h
  rcases h.2 with ⟨_, h0⟩ | ⟨g, c, cur, hv2, _⟩
  · omega
  · injection hv2 with e1 _ _
    injection hv with e2 _ _
    rw [e1] at e2
    refine ⟨g, e1, fun n os => ?_⟩
    rcases hd with hd | ⟨b, off, hp, hat⟩
    · rw [hd] at hk; simp at hk
    · rw [← e2] at hp
      cases hp
      have := km_grown hat (Below.refl _ _) k (by omega) n os
      rw [Nat.zero_add] at this
      rw [List.getD_eq_getElem?_getD, List.getElem?_eq_getElem (show k < d.length by omega)]
      exact this

end Go.Proofs.YticfpkodoghnnaaGreat

/-
  An element written over in a row of its own, for elements of one cell and of two.
-/
namespace Go.Proofs.YticfpkodoghnnaaGreat
open Go.RowKit Go.Sort Go.Lib

theorem Kind.cells_set {α : Type} (K : Kind α) (d : List α) (i : Nat) (h : i < d.length) (x : α) (j : Nat) : (K.cells (d.set i x))[j]? = if i * K.k ≤ j ∧ j < i * K.k + K.k then (K.enc x)[j - i * K.k]? else (K.cells d)[j]? := by
  by_cases hj : j < d.length * K.k
  · have hkp := K.pos
    have hq : j / K.k < d.length := (Nat.div_lt_iff_lt_mul hkp).2 hj
    have hm : j % K.k < K.k := Nat.mod_lt _ hkp
    have e : j / K.k * K.k + j % K.k = j := by rw [Nat.mul_comm]; exact Nat.div_add_mod j K.k
    have h1 := K.cells_get (d.set i x) (j / K.k) (by simpa using hq) (j % K.k) hm
    have h2 := K.cells_get d (j / K.k) hq (j % K.k) hm
    rw [e] at h1 h2
    rw [h1, h2, List.getElem_set]
    by_cases hi : i = j / K.k
    · rw [if_pos hi, if_pos (by rw [hi]; omega), hi]
      congr 1
      omega
    · rw [if_neg hi, if_neg]
      intro hh
      exact hi ((blk_iff K.k i j hkp).1 hh).symm
  · have h3 : (i + 1) * K.k ≤ d.length * K.k := Nat.mul_le_mul_right _ h
    rw [Nat.add_mul, Nat.one_mul] at h3
    rw [if_neg (by omega), List.getElem?_eq_none (by rw [K.cells_len, List.length_set]; omega), List.getElem?_eq_none (by rw [K.cells_len]; omega)]

theorem Kind.set2 {α : Type} {K : Kind α} (hk : K.k = 2) (d : List α) (i : Nat) (h : i < d.length) (x : α) (a b : Value) (he : K.enc x = [a, b]) : K.cells (d.set i x) = ((K.cells d).set (i * 2) a).set (i * 2 + 1) b := by
  apply List.ext_getElem?
  intro j
  rw [K.cells_set d i h x j]
  have hl : (K.cells d).length = d.length * 2 := by rw [K.cells_len, hk]
  rw [hk, he]
  simp only [List.getElem?_set, List.length_set, hl]
  by_cases h0 : j = i * 2
  · subst h0
    simp
    omega
  · by_cases h1 : j = i * 2 + 1
    · subst h1
      simp
      omega
    · rw [if_neg (by omega), if_neg (fun e => h1 e.symm), if_neg (fun e => h0 e.symm)]

theorem Kind.set1 {α : Type} {K : Kind α} (hk : K.k = 1) (d : List α) (i : Nat) (h : i < d.length) (x : α) (a : Value) (he : K.enc x = [a]) : K.cells (d.set i x) = (K.cells d).set i a := by
  apply List.ext_getElem?
  intro j
  rw [K.cells_set d i h x j]
  have hl : (K.cells d).length = d.length := by rw [K.cells_len, hk, Nat.mul_one]
  rw [hk, he]
  simp only [List.getElem?_set, hl, Nat.mul_one]
  by_cases h0 : j = i
  · subst h0
    simp
    omega
  · rw [if_neg (by omega), if_neg (fun e => h0 e.symm)]

/-- An element of two cells written over. -/
theorem Kind.own_put2 {α : Type} {K : Kind α} (hk : K.k = 2) {n0 g n cap : Nat} {w : World} {d : List α} (h : K.Own n0 w (.slice (some ⟨g, 0, none⟩) n cap) d) (hn : d.length = n) (i : Nat) (hi : i < d.length) (x : α) (a b : Value) (he : K.enc x = [a, b]) :
    K.Own n0 ((w.setCell ⟨g, i * 2, none⟩ a).setCell ⟨g, i * 2 + 1, none⟩ b) (.slice (some ⟨g, 0, none⟩) n cap) (d.set i x) := by
  subst hn
  have h1 := World.ownsRow.stored h (i * 2) a
  have h2 := World.ownsRow.stored h1.1 (i * 2 + 1) b
  unfold Kind.Own
  rw [Kind.set2 hk d i hi x a b he, List.length_set]
  exact h2.1

/-- An element of one cell written over. -/
theorem Kind.own_put1 {α : Type} {K : Kind α} (hk : K.k = 1) {n0 g n cap : Nat} {w : World} {d : List α} (h : K.Own n0 w (.slice (some ⟨g, 0, none⟩) n cap) d) (hn : d.length = n) (i : Nat) (hi : i < d.length) (x : α) (a : Value) (he : K.enc x = [a]) :
    K.Own n0 (w.setCell ⟨g, i, none⟩ a) (.slice (some ⟨g, 0, none⟩) n cap) (d.set i x) := by
  subst hn
  have h1 := World.ownsRow.stored h i a
  unfold Kind.Own
  rw [Kind.set1 hk d i hi x a he, List.length_set]
  exact h1.1

/-- A row that is not empty lies in a block of its own, whose cells may be written. -/
theorem Kind.own_form {α : Type} {K : Kind α} {n0 n c : Nat} {w : World} {q : Option Addr} {d : List α} (h : K.Own n0 w (.slice q n c) d) (h0 : 0 < d.length) : ∃ g, q = some ⟨g, 0, none⟩ ∧ n0 ≤ g ∧ d.length = n ∧ K.At w g 0 d ∧ ∀ j, w.frozen? ⟨g, j, none⟩ = false := by
  rcases h.2 with ⟨_, h1⟩ | ⟨g, cap, cur, hv, hb, hg, _⟩
  · omega
  · injection hv with h1 h2 h3
    subst h1
    obtain ⟨p, c', he, hd⟩ := Kind.own_is h
    injection he with e1 e2 e3
    rcases hd with hd | ⟨b, off, hp, hat⟩
    · rw [hd] at h0; simp at h0
    · rw [← e1] at hp
      injection hp with hp
      injection hp with hp1 hp2
      subst hp1 hp2
      exact ⟨g, rfl, hb, h2.symm, hat, fun j => Lib.frozen_of_heap hg _⟩

/-- One more in its place, by shifting: what a list is between two rounds of the shift. -/
theorem shift_step {α : Type} (l : List α) (y : α) (p i : Nat) (hp : p < i) (hi : i ≤ l.length) :
    (l.take i ++ y :: l.drop i).set i (l[i - 1]'(by omega)) = l.take (i - 1) ++ (l[i - 1]'(by omega)) :: l.drop (i - 1) := by
  obtain ⟨k, rfl⟩ : ∃ k, i = k + 1 := ⟨i - 1, by omega⟩
  have hk : k < l.length := by omega
  apply List.ext_getElem?
  intro j
  have h1 : (l.take (k + 1)).length = k + 1 := by rw [List.length_take]; omega
  have h2 : (l.take k).length = k := by rw [List.length_take]; omega
  simp only [Nat.add_sub_cancel]
  rw [List.getElem?_set]
  by_cases hj : k + 1 = j
  · subst hj
    rw [if_pos rfl, if_pos (by rw [List.length_append, h1]; simp), List.getElem?_append_right (by omega), h2]
    simp [List.getElem?_drop, hk]
  · rw [if_neg hj]
    by_cases hlt : j < k
    · rw [List.getElem?_append_left (by omega), List.getElem?_append_left (by omega), List.getElem?_take, List.getElem?_take, if_pos (by omega), if_pos hlt]
    · by_cases he : j = k
      · subst he
        rw [List.getElem?_append_left (by omega), List.getElem?_append_right (by omega), h2, List.getElem?_take, if_pos (by omega)]
        simp [hk]
      · have hgt : k + 1 < j := by omega
        obtain ⟨m, rfl⟩ : ∃ m, j = k + 2 + m := ⟨j - (k + 2), by omega⟩
        rw [List.getElem?_append_right (by omega), List.getElem?_append_right (by omega), h1, h2, show k + 2 + m - (k + 1) = m + 1 by omega, show k + 2 + m - k = m + 1 + 1 by omega, List.getElem?_cons_succ, List.getElem?_cons_succ, List.getElem?_drop, List.getElem?_drop]
        congr 1
        omega

end Go.Proofs.YticfpkodoghnnaaGreat

/-
  Rows of terms: one written over, cut short, sorted; the order as compare has it; what is left of a sorted row without its doubles.
-/
namespace Go.Proofs.YticfpkodoghnnaaGreat
open Go.RowKit Go.Sort Go.Lib

theorem km_set (d : List Tm) (i : Nat) (h : i < d.length) (x : Tm) : KM.cells (d.set i x) = (((KM.cells d).set (i * 3) (.string x.1)).set (i * 3 + 1) (.int .i64 x.2.1)).set (i * 3 + 2) (.string x.2.2) := by
  apply List.ext_getElem?
  intro j
  rw [KM.cells_set d i h x j]
  have hl : (KM.cells d).length = d.length * 3 := KM.cells_len d
  have hk : KM.k = 3 := rfl
  rw [hk]
  simp only [List.getElem?_set, List.length_set, hl]
  by_cases h0 : j = i * 3
  · subst h0
    simp [KM, encM]
    omega
  · by_cases h1 : j = i * 3 + 1
    · subst h1
      simp [KM, encM]
      omega
    · by_cases h2 : j = i * 3 + 2
      · subst h2
        simp [KM, encM]
        omega
      · rw [if_neg (by omega), if_neg (fun e => h2 e.symm), if_neg (fun e => h1 e.symm), if_neg (fun e => h0 e.symm)]

/-- A term written over. -/
theorem own_put {n0 g n cap : Nat} {w : World} {d : List Tm} (h : KM.Own n0 w (.slice (some ⟨g, 0, none⟩) n cap) d) (hn : d.length = n) (i : Nat) (hi : i < d.length) (x : Tm) :
    KM.Own n0 (((w.setCell ⟨g, i * 3, none⟩ (.string x.1)).setCell ⟨g, i * 3 + 1, none⟩ (.int .i64 x.2.1)).setCell ⟨g, i * 3 + 2, none⟩ (.string x.2.2)) (.slice (some ⟨g, 0, none⟩) n cap) (d.set i x) := by
  subst hn
  have h1 := World.ownsRow.stored h (i * 3) (.string x.1)
  have h2 := World.ownsRow.stored h1.1 (i * 3 + 1) (.int .i64 x.2.1)
  have h3 := World.ownsRow.stored h2.1 (i * 3 + 2) (.string x.2.2)
  unfold Kind.Own
  rw [km_set d i hi x, List.length_set]
  exact h3.1

theorem km_take (d : List Tm) (k : Nat) : KM.cells (d.take k) = (KM.cells d).take (k * 3) := by
  apply List.ext_getElem?
  intro j
  by_cases hk : k ≤ d.length
  · rw [List.getElem?_take]
    by_cases hj : j < k * 3
    · rw [if_pos hj]
      have hq : j / 3 < k := by omega
      have hm : j % 3 < 3 := by omega
      have e : j / 3 * 3 + j % 3 = j := by omega
      have h1 := KM.cells_get (d.take k) (j / 3) (by rw [List.length_take]; omega) (j % 3) hm
      have h2 := KM.cells_get d (j / 3) (by omega) (j % 3) hm
      have hk3 : KM.k = 3 := rfl
      rw [hk3, e] at h1 h2
      rw [h1, h2, List.getElem_take]
    · rw [if_neg hj, List.getElem?_eq_none]
      have := KM.cells_len (d.take k)
      have hk3 : KM.k = 3 := rfl
      rw [this, hk3, List.length_take]
      omega
  · rw [List.take_of_length_le (by omega), List.take_of_length_le (by rw [KM.cells_len]; show d.length * 3 ≤ _; omega)]

/-- The row cut short. -/
theorem own_cut {n0 g n cap : Nat} {w : World} {d : List Tm} (h : KM.Own n0 w (.slice (some ⟨g, 0, none⟩) n cap) d) (k : Nat) (hk : k ≤ d.length) :
    KM.Own n0 w (.slice (some ⟨g, 0, none⟩) k cap) (d.take k) := by
  have hl : (d.take k).length = k := by rw [List.length_take]; omega
  rcases h.2 with ⟨hv, _⟩ | ⟨g', cap', cur, hv, h1, h2, h3, h4, h5, h6⟩
  · cases hv
  · injection hv with e1 e2 e3
    injection e1 with e1
    injection e1 with e1 _ _
    subst e1 e3
    refine ⟨by rw [KM.cells_len], Or.inr ⟨g, cap, cur, by rw [hl], h1, h2, by rw [hl]; omega, h4, h5, ?_⟩⟩
    rw [hl, km_take, ← h6, List.take_take]
    congr 1
    have hk3 : KM.k = 3 := rfl
    rw [hk3]
    omega

/-- Cells behind the row's end written over. -/
theorem own_past {n0 g n cap : Nat} {d : List Tm} (vs : List Value) : ∀ (w : World) (o : Nat), KM.Own n0 w (.slice (some ⟨g, 0, none⟩) n cap) d → d.length = n → n * 3 ≤ o → KM.Own n0 (w.setCells g o vs) (.slice (some ⟨g, 0, none⟩) n cap) d := by
  induction vs with
  | nil => intro w o h _ _; exact h
  | cons v vs ih =>
    intro w o h hn ho
    rw [World.setCells]
    refine ih _ _ ?_ hn (by omega)
    subst hn
    have h1 := (World.ownsRow.stored h o v).1
    rw [List.set_eq_of_length_le (by rw [KM.cells_len]; exact ho)] at h1
    exact h1

theorem grown_sets {g : Nat} (vs : List Value) : ∀ (w w0 : World) (o : Nat), w0.grownBy w (some g) → w0.grownBy (w.setCells g o vs) (some g) := by
  induction vs with
  | nil => intro w w0 o h; exact h
  | cons v vs ih => intro w w0 o h; rw [World.setCells]; exact ih _ _ _ (grown_trans h (grown_set w g o v))

theorem km_flat : ∀ (d : List Tm) (t : Nat), t < d.length * 3 → (KM.cells d)[t]? = some (encM d[t / 3]!)[t % 3]! := by
  intro d t h
  have hq : t / 3 < d.length := by omega
  have hm : t % 3 < 3 := by omega
  have e : t / 3 * 3 + t % 3 = t := by omega
  have h1 := KM.cells_get d (t / 3) hq (t % 3) hm
  have hk3 : KM.k = 3 := rfl
  rw [hk3, e] at h1
  rw [h1, getElem!_pos d (t / 3) hq]
  have hl : (encM d[t / 3]).length = 3 := rfl
  show (encM d[t / 3])[t % 3]? = _
  rw [List.getElem?_eq_getElem (by rw [hl]; exact hm), getElem!_pos _ _ (by rw [hl]; exact hm)]

theorem own_holds {n0 g n cap : Nat} {w : World} {d : List Tm} (h : KM.Own n0 w (.slice (some ⟨g, 0, none⟩) n cap) d) : HoldsK encM 3 w g 0 d.toArray := by
  rcases h.2 with ⟨hv, _⟩ | ⟨g', cap', cur, hv, h1, h2, h3, h4, h5, h6⟩
  · cases hv
  · injection hv with e1 e2 e3
    injection e1 with e1
    injection e1 with e1 _ _
    subst e1
    intro j hj
    rw [size_flatK] at hj
    have hj' : j < d.length * 3 := by simpa using hj
    have hg := km_flat d j hj'
    have hk3 : KM.k = 3 := rfl
    rw [← h6, hk3, List.getElem?_take_of_lt hj'] at hg
    rw [get_flatK _ _ _ _ hj]
    constructor
    · simp only [World.cell?, h2, Nat.zero_add]
      have he : d[j / 3]! = d.toArray[j / 3]! := by
        rw [getElem!_pos d (j / 3) (by omega), getElem!_pos d.toArray (j / 3) (by simp; omega)]; simp
      rw [← Array.getElem?_toList, hg, he]
      rfl
    · simp [World.frozen?, h2]

theorem below_sortM {B : Nat} {w0 w : World} (h : Below B w0 w) (hB : B ≤ w.heap.size) (blk off n : Nat) (d : Array Tm) (os : Array Obj) (hb : B ≤ blk) : Below B w0 (sortWorldK encM 3 w blk off n d os) := by
  refine h.trans ⟨rfl, rfl, rfl, ?_, ?_⟩
  · simp [sortWorldK, putRowK]
  · intro k hk
    have hks : k < w.heap.size := by omega
    simp only [sortWorldK, Sort.grow, putRowK, putRow, mapBlock, Sort.ahead]
    rw [Array.getElem?_append_left (by simpa using hks), Array.getElem?_modify, if_neg (by omega)]

/-- A row whose terms have been put in another order. -/
theorem own_sorted {n0 g n cap : Nat} {w : World} {d : List Tm} (h : KM.Own n0 w (.slice (some ⟨g, 0, none⟩) n cap) d) (e : Array Tm) (he : e.size = d.length) (m : Nat) (os : Array Obj) :
    KM.Own n0 (sortWorldK encM 3 w g 0 m e os) (.slice (some ⟨g, 0, none⟩) n cap) e.toList := by
  have hH := own_holds h
  rcases h.2 with ⟨hv, _⟩ | ⟨g', cap', cur, hv, h1, h2, h3, h4, h5, h6⟩
  · cases hv
  · injection hv with e1 e2 e3
    injection e1 with e1
    injection e1 with e1 _ _
    subst e1 e2 e3
    have hgl := (Array.getElem?_eq_some_iff.1 h2).1
    have hl : e.toList.length = d.length := by simpa using he
    have hheap : (sortWorldK encM 3 w g 0 m e os).heap[g]? = some (.cells (putCells id 0 (flatK encM 3 e) cur) KM.T (0, 0)) := by
      simp only [sortWorldK, Sort.grow, putRowK, putRow, mapBlock, Sort.ahead]
      rw [Array.getElem?_append_left (by simpa using hgl), Array.getElem?_modify, if_pos rfl, h2]
      rfl
    have hH2 : HoldsK encM 3 (sortWorldK encM 3 w g 0 m e os) g 0 e := by
      exact holdsK_grow encM 3 _ os g 0 _ (by simpa [putRowK] using hgl) (holdsK_putRowK encM 3 (Sort.ahead w m) g 0 _ _ (holdsK_ahead encM 3 w m g 0 _ hH) (by simpa using he))
    have hsz : (putCells id 0 (flatK encM 3 e) cur).size = cur.size := by simp [putCells]
    refine ⟨by rw [KM.cells_len], Or.inr ⟨g, cap, _, by rw [hl], h1, hheap, by rw [hl]; exact h3, h4, by rw [hsz]; exact h5, ?_⟩⟩
    apply List.ext_getElem?
    intro j
    have hk3 : KM.k = 3 := rfl
    rw [hl, hk3, List.getElem?_take]
    by_cases hj : j < d.length * 3
    · rw [if_pos hj, km_flat e.toList j (by omega)]
      have := (hH2 j (by rw [size_flatK]; omega)).1
      rw [get_flatK _ _ _ _ (by omega)] at this
      simp only [World.cell?, hheap, Nat.zero_add] at this
      simp only [Option.isSome_none, Bool.false_eq_true, if_false] at this
      rw [Array.getElem?_toList, this]
      have he2 : e.toList[j / 3]! = e[j / 3]! := by
        rw [getElem!_pos e (j / 3) (by omega), getElem!_pos e.toList (j / 3) (by simp; omega)]; simp
      rw [he2]
      rfl
    · rw [if_neg hj, List.getElem?_eq_none]
      rw [KM.cells_len, hk3, hl]
      omega

/-- What compare answers. -/
def cmpM (x y : Tm) : Int := pairI (Lib.compareBytes x.1.data.toList y.1.data.toList) (pairI (Lib.compareInt x.2.1 y.2.1) (Lib.compareBytes x.2.2.data.toList y.2.2.data.toList))

theorem pairI_zero (y : Int) : pairI 0 y = y := rfl
theorem pairI_ne {x : Int} (h : x ≠ 0) (y : Int) : pairI x y = x := by unfold pairI; rw [if_neg h]

theorem cmpM_lt (x y : Tm) : ltOf cmpM x y = ltM x y := by
  obtain ⟨a1, a2, a3⟩ := x
  obtain ⟨b1, b2, b3⟩ := y
  show decide (pairI (Lib.compareBytes a1.data.toList b1.data.toList) (pairI (Lib.compareInt a2 b2) (Lib.compareBytes a3.data.toList b3.data.toList)) < 0) = if a1 ≠ b1 then ltB a1 b1 else if a2 ≠ b2 then decide (a2 < b2) else ltB a3 b3
  by_cases h1 : a1 = b1
  · subst h1
    rw [if_neg (show ¬ (a1 ≠ a1) by simp), cb_self, pairI_zero]
    by_cases h2 : a2 = b2
    · subst h2
      have hc : Lib.compareInt a2 a2 = 0 := by unfold Lib.compareInt; simp
      rw [if_neg (show ¬ (a2 ≠ a2) by simp), hc, pairI_zero]
      rfl
    · rw [if_pos h2]
      rcases Int.lt_or_gt_of_ne h2 with h | h
      · have hc : Lib.compareInt a2 b2 = -1 := by unfold Lib.compareInt; simp [h]
        rw [hc, pairI_ne (by decide)]
        simp [h]
      · have hn : ¬ a2 < b2 := by omega
        have hc : Lib.compareInt a2 b2 = 1 := by unfold Lib.compareInt; simp [hn, h]
        rw [hc, pairI_ne (by decide)]
        simp [hn]
  · have hc : Lib.compareBytes a1.data.toList b1.data.toList ≠ 0 := fun e => h1 (ba_eq ((cb_zero _ _).1 e))
    rw [if_pos h1, pairI_ne hc]
    rfl

theorem swoM : SWO (ltOf cmpM) where
  irrefl x := by rw [cmpM_lt]; exact ltM_irrefl x
  trans x y z h1 h2 := by rw [cmpM_lt] at *; exact ltM_trans h1 h2
  ntrans x y z h1 h2 := by
    rw [cmpM_lt] at *
    cases h : ltM x z with
    | false => rfl
    | true =>
      rcases ltM_cases x y with h3 | h3 | h3
      · rw [h1] at h3; cases h3
      · rw [h3, h2] at h; cases h
      · rw [ltM_trans h3 h] at h2; cases h2

/-- A sorted row without its doubles is rising. -/
theorem compact_sorted {d : Array Tm} (hs : SortedIn (ltOf cmpM) 0 d.size d) : RisingM (compactUpTo d d.size) ∧ ∀ x, x ∈ compactUpTo d d.size ↔ x ∈ d.toList := by
  have hle : ∀ i j, i ≤ j → j < d.size → ltM d[j]! d[i]! = false := by
    intro i j hij hj
    rcases Nat.lt_or_ge i j with h | h
    · have := hs i j (Nat.zero_le _) h hj
      rwa [cmpM_lt] at this
    · obtain rfl : i = j := by omega
      exact ltM_irrefl _
  have key : ∀ m, m ≤ d.size → RisingM (compactUpTo d m) ∧ ∀ x, x ∈ compactUpTo d m ↔ ∃ j, j < m ∧ d[j]! = x := by
    intro m
    induction m with
    | zero => intro _; exact ⟨List.Pairwise.nil, fun x => by simp [compactUpTo]⟩
    | succ m ih =>
      intro hm
      obtain ⟨h1, h2⟩ := ih (by omega)
      rw [compactUpTo_succ]
      cases hk : keeps d m with
      | true =>
        rw [if_pos rfl]
        constructor
        · refine List.pairwise_append.2 ⟨h1, List.pairwise_singleton _ _, fun x hx y hy => ?_⟩
          rw [List.mem_singleton] at hy
          subst hy
          obtain ⟨j, hj, rfl⟩ := (h2 x).1 hx
          have hne : d[m]! ≠ d[m - 1]! := by
            unfold keeps at hk
            rcases of_decide_eq_true hk with h | h
            · omega
            · exact h
          have ha := hle j (m - 1) (by omega) (by omega)
          have hb := hle (m - 1) m (by omega) (by omega)
          rcases ltM_cases d[j]! d[m]! with h | h | h
          · exact h
          · rw [h] at ha
            rcases ltM_cases d[m - 1]! d[m]! with h' | h' | h'
            · rw [ha] at h'; cases h'
            · exact absurd h'.symm hne
            · rw [hb] at h'; cases h'
          · rw [hle j m (by omega) (by omega)] at h; cases h
        · intro x
          rw [List.mem_append, List.mem_singleton, h2]
          constructor
          · rintro (⟨j, hj, e⟩ | e)
            · exact ⟨j, by omega, e⟩
            · exact ⟨m, by omega, e.symm⟩
          · rintro ⟨j, hj, e⟩
            by_cases hjm : j = m
            · subst hjm; exact Or.inr e.symm
            · exact Or.inl ⟨j, by omega, e⟩
      | false =>
        rw [if_neg (by simp), List.append_nil]
        refine ⟨h1, fun x => ?_⟩
        rw [h2]
        constructor
        · rintro ⟨j, hj, e⟩
          exact ⟨j, by omega, e⟩
        · rintro ⟨j, hj, e⟩
          by_cases hjm : j = m
          · subst hjm
            have hh : ¬ (j = 0 ∨ d[j]! ≠ d[j - 1]!) := by unfold keeps at hk; exact of_decide_eq_false hk
            have h0 : j ≠ 0 := fun e => hh (Or.inl e)
            have h3 : d[j]! = d[j - 1]! := Classical.byContradiction fun e => hh (Or.inr e)
            exact ⟨j - 1, by omega, by rw [← h3]; exact e⟩
          · exact ⟨j, by omega, e⟩
  obtain ⟨h1, h2⟩ := key d.size (Nat.le_refl _)
  refine ⟨h1, fun x => (h2 x).trans ?_⟩
  rw [List.mem_iff_getElem]
  constructor
  · rintro ⟨j, hj, e⟩
    exact ⟨j, by simpa using hj, by rw [← e, getElem!_pos d j hj]; simp⟩
  · rintro ⟨j, hj, e⟩
    have hj' : j < d.size := by simpa using hj
    exact ⟨j, hj', by rw [getElem!_pos d j hj', ← e]; simp⟩

end Go.Proofs.YticfpkodoghnnaaGreat

/-
  An element written over in a row of its own (Ksu), beside Pc0's rows.
-/
namespace Go.Proofs.YticfpkodoghnnaaGreat
end Go.Proofs.YticfpkodoghnnaaGreat
