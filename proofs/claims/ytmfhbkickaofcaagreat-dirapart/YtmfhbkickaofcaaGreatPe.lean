/-
  Texts of this claim, one behind the other: Dmk Dwk Dcy Dwi Dwd Sh2 Dea Dlg Dlw Dst Dfx Dfw.
-/
import Derived.Test.YtmfhbkickaofcaaGreatPd
import Derived.Shelf.SlGeneric
import Derived.Shelf.SlicesE.Clone
import Derived.Shelf.SlicesQ.IndexFunc
import Derived.Shelf.SlSortCmp.InsertionK
import Derived.Ground.NamesProg
import Derived.Shelf.Lays
import Derived.Ground.SlsfProg
import Derived.Shelf.SlLaysF0
import Derived.Test.YtmfhbkickaofcaaGreatProg
/-
  All keys of a directory, sorted (stage 7): maps.Keys, slices.Collect and SortedFunc at its map.
-/
namespace Go.Proofs.YtmfhbkickaofcaaGreat
open Go.RowKit Go.Maps Go.Sort
attribute [local go_sem] Oper.semAt_some

section
variable {F : Fence} {nf : Nat} (w : World) {ops : Array Oper} {rest : List Oper} {o : Oper} {a : Act} {Q : Exit → Act → World → Prop}

set_option maxRecDepth 100000 in
theorem wpIn_range_D (hg : o.guard = none) (mo : Operand) (hop : o.op = Op.range 80 mo) (m n : Nat) (f : Ky → Option Nat) (hm : a.eval mo = .map (some m)) (h : MapD w m n f)
    (hK : ∀ w' cnt, RangeD w' m w.heap.size n f [] cnt → w.grownBy w' none → w'.heap.size = w.heap.size + 1 → wpListIn F nf Tryz.prog ops Q rest (a.put o.dst (.pointer (some ⟨w.heap.size, 0, none⟩))) w') :
    wpListIn F nf Tryz.prog ops Q (o :: rest) a w := by
  obtain ⟨D, hD, hf, hh⟩ := h
  exact wpListIn_range_own w hg mo _ hop _ _ Tryz.keyedKey Tryz.underlying80 ptrR m n D hm hD fun w' h1 h2 h3 => hK w' _ (rangeD_start hD hf hh h1) h2 h3

set_option maxRecDepth 100000 in
theorem wpIn_next_D (hg : o.guard = none) (it : Operand) (hop : o.op = Op.next it false) (m r n : Nat) (f : Ky → Option Nat) (seen : List Ky) (cnt : Nat) (hit : a.eval it = .pointer (some ⟨r, 0, none⟩)) (h : RangeD w m r n f seen cnt)
    (hDone : (∀ k, FitK k → (f k).isSome = true → k ∈ seen) → wpListIn F nf Tryz.prog ops Q rest (a.put o.dst (.tuple #[.bool false])) w)
    (hMore : ∀ (k : Ky) (b : Nat) (w' : World) (cnt' : Nat), FitK k → k ∉ seen → f k = some b → RangeD w' m r n f (seen ++ [k]) cnt' → cnt' < cnt → w.grownBy w' (some r) → w'.heap.size = w.heap.size →
      (Instr.entry (.pointer (some ⟨r, 0, none⟩))).run Tryz.prog w' = .ok (.tuple #[valK k, mkP (some b)]) w' → wpListIn F nf Tryz.prog ops Q rest (a.put o.dst (.tuple #[.bool true, valK k, mkP (some b)])) w') :
    wpListIn F nf Tryz.prog ops Q (o :: rest) a w := by
  obtain ⟨D, left, h1, h2, h3, h4, h5, h6, h7⟩ := h
  refine wpListIn_next_ranges w hg it hop _ Tryz.keyedKey ptrR valK mkP keyL_inv ptrR_inv m r n D left cnt hit h1 (fun _ hl => hDone fun k hk hs => ?_) fun x c kl y w' cnt' hkey hlk hR hat hr hlt hg' hsz hen => ?_
  · refine Classical.byContradiction fun hn => ?_
    have := (h4 k hk).2 ⟨hs, hn⟩
    rw [hl] at this
    cases this
  · obtain ⟨g1, g2, g3, g4⟩ := rangeD_step h2 h3 h4 h5 h6 h7 hkey hlk hlt hr
    have hc : c = f x := by
      rw [ptrR_mk] at hR
      injection hR with hR
      have := hat (encP none)
      rw [← hR, (keyL_fit hkey).2, h2 x g1] at this
      exact (encP_inj this).symm
    subst hc
    obtain ⟨b, hb⟩ := Option.isSome_iff_exists.1 g3
    rw [hb] at hen ⊢
    exact hMore x b w' cnt' g1 g2 hb g4 hlt hg' hsz hen
end

/-- Maps and their iterators stay. -/
def KpW (W W' : World) : Prop := W.heap.size ≤ W'.heap.size ∧ ∀ (k : Nat) (o : Obj), W.heap[k]? = some o → o.isWalk = true → W'.heap[k]? = some o
theorem kpW_trans {X Y Z : World} (h : KpW X Y) (k : KpW Y Z) : KpW X Z := ⟨Nat.le_trans h.1 k.1, fun i o hi ho => k.2 i o (h.2 i o hi ho) ho⟩
theorem kpW_put (W : World) (l : Nat) (o : Obj) (h : ∃ r, W.heap[l]? = some (.loop r)) : KpW W (W.putObj l o) := by
  obtain ⟨r, hr⟩ := h
  refine ⟨by simp, fun k ob hk ho => ?_⟩
  by_cases e : k = l
  · subst e
    rw [hr] at hk
    injection hk with hk
    subst hk
    cases ho
  · exact (World.putObj_heap_other e).trans hk
theorem kpW_fr {P : Nat → Prop} {W W' : World} (f : Fr P W W') (h : ∀ b, P b → b < W.heap.size → ∃ cs t fz, W.heap[b]? = some (.cells cs t fz)) : KpW W W' := by
  refine ⟨f.size, fun k o hk ho => ?_⟩
  have hlt := (Array.getElem?_eq_some_iff.1 hk).1
  by_cases hp : P k
  · obtain ⟨cs, t, fz, hc⟩ := h k hp hlt
    rw [hc] at hk
    injection hk with hk
    subst hk
    cases ho
  · exact (f.block k hlt hp).trans hk

def encKk (k : Ky) : Array Value := #[.agg #[.string k.1, .string k.2]]

set_option maxHeartbeats 4000000 in
set_option maxRecDepth 100000 in
theorem mkeys1_in (nn : Nat) (hnn : 1 ≤ nn) (l Bm m n : Nat) (f : Ky → Option Nat) (J Jx : List Ky → World → Prop)
    (W : World) (hJ : AbidesFrom W.heap.size J) (hY : ∀ pre x W1, J pre W1 → (FitK x ∧ pre.length < n) → YieldAt Fence.wide (nn - 1) Tryz.prog l (encKk x) W1 fun e W' =>
      (e = .returned (.bool true) ∧ J (pre ++ [x]) W' ∧ KpW W1 W') ∨ (e = .returned (.bool false) ∧ Jx (pre ++ [x]) W'))
    (hm : W.cell? ⟨Bm, 0, none⟩ = some (.map (some m))) (hM : MapD W m n f) (h0 : J [] W) :
    CallsIn Fence.wide nn Tryz.prog 132 #[.func (.yield l) #[] #[], .pointer (some ⟨Bm, 0, none⟩)] W fun e W' => (∃ v, e = .returned v) ∧
      ((∃ xs : List Ky, (xs.Nodup ∧ ∀ k, k ∈ xs ↔ FitK k ∧ (f k).isSome = true) ∧ J xs W') ∨ (∃ pre : List Ky, True ∧ Jx pre W')) := by
  have HM := hid hM
  obtain ⟨N, hN⟩ : ∃ N, W.heap.size = N := ⟨_, rfl⟩
  refine callsIn_of_wp Tryz.func132 rfl trivial ?_ rfl
  simp only [Tryz.ntmps132, List.size_toArray, List.length_cons, List.length_nil, Nat.reduceAdd, Nat.reduceSub, Array.replicate_succ, Array.replicate_zero, List.push_toArray, List.append_toArray, List.nil_append, List.cons_append]
  gi_wp2_with (first | (gi_at_range; refine wpIn_range_D _ rfl _ rfl m n f rfl HM.out ?_; intro w0 cnt0 hr0 hg0 hs0) | gi_in)
  go_frame
  have ST0 : Hid (RangeD w0 m N n f [] cnt0 ∧ J [] w0) := ⟨by rw [← hN]; exact hr0, hJ [] W w0 none h0 hg0 (fun r e => by cases e)⟩
  clear hr0 hg0 hs0 HM hM hm
  rw [hN]
  gi_loopw [3] (fun _ wr => ∃ (seen : List Ky) (cnt : Nat), RangeD wr m N n f seen cnt ∧ J seen wr) (fun _ wr => wr.rangeLeft m N)
  case atStart => exact ⟨[], cnt0, ST0.out.1, ST0.out.2⟩
  case round =>
    obtain ⟨seen, cnt, hr, hJs⟩ := hrel
    have hnd := hr.nodup
    gi_wp2_with (first | (gi_at_next; refine wpIn_next_D _ rfl _ rfl m N n f seen cnt rfl hr ?_ ?_) | gi_in)
    · intro hall
      gi_wp2
      go_end0
      exact ⟨⟨_, rfl⟩, .inl ⟨seen, ⟨hnd.1, fun k => ⟨fun hk => hnd.2.1 k hk, fun hk => hall k.1 k.2 hk.1 hk.2⟩⟩, hJs⟩⟩
    · intro ka kb b w2 cnt2 hkf hks hfb hr2 hlt hg2 hs2 hen
      obtain ⟨si, sn, sc, hit⟩ := hr.iter
      have hJ2 : J seen w2 := hJ seen wr w2 (some N) hJs hg2 (fun r e => by cases e; exact ⟨by omega, _, hit, rfl⟩)
      have hb3 : Below w2.heap.size w2 (w2.alloc (.cells #[.string ka, .string kb] 31)) := (Below.refl _ _).alloc (Nat.le_refl _) _
      have hJ3 : J seen (w2.alloc (.cells #[.string ka, .string kb] 31)) := hJ seen w2 _ none hJ2 (grown_of hb3) fun r e => by cases e
      have hr3 := hr2.on (hb3.block _ hr2.map.lt) (hb3.block _ hr2.lt)
      obtain ⟨fn, tmps, assign, body, hy, hR⟩ := hY seen (ka, kb) _ hJ3 ⟨hkf, by have := hr2.nodup.2.2; rw [List.length_append] at this; simp at this; omega⟩
      simp only [encKk] at hy
      have HR3 := hid hr3
      have hle := hr.left_eq
      have HLE := hid hle
      simp only [valK, mkP, Option.map_some] at hen ⊢
      clear hs2 hr hr2 hr3 hnd hg2 hJ2 hJ3 hJs hfb hkf hks hb3 hle hit
      gi_wp2
      refine hR.mono ?_
      rintro e W3 (⟨rfl, hJ3, hk3⟩ | ⟨rfl, hJx3⟩)
      · obtain ⟨es, cl, hme⟩ := HR3.out.map.obj
        obtain ⟨si, sn, sc, hit⟩ := HR3.out.iter
        have hr4 := HR3.out.on ((hk3.2 m _ hme rfl).trans hme.symm) ((hk3.2 N _ hit rfl).trans hit.symm)
        have HR4 := hid hr4
        have HJ3 := hid hJ3
        clear hr4 hJ3 hk3 hme hit
        gi_wp2
        go_roundw
        case rel => exact ⟨seen ++ [(ka, kb)], cnt2, HR4.out, HJ3.out⟩
        case measure => rw [HR4.out.left_eq, HLE.out]; exact hlt
      · gi_wp2
        refine bodyPost_ret (results_none rfl _ _ _) rfl ?_
        exact ⟨⟨_, rfl⟩, .inr ⟨_, trivial, hJx3⟩⟩

theorem mkeys_seq (nn : Nat) (hnn : 1 ≤ nn) {w : World} {Bm m n : Nat} {f : Ky → Option Nat} (hm : w.cell? ⟨Bm, 0, none⟩ = some (.map (some m))) (hM : MapD w m n f) :
    SeqM Fence.wide nn Tryz.prog 132 #[.pointer (some ⟨Bm, 0, none⟩)] encKk (fun pre x _ => FitK x ∧ pre.length < n) KpW (fun xs => xs.Nodup ∧ ∀ k, k ∈ xs ↔ FitK k ∧ (f k).isSome = true) (fun _ => True) w :=
  fun l J Jx W hW hJ hY h0 => mkeys1_in nn hnn l Bm m n f J Jx W hJ hY ((hW.cell (p := ⟨Bm, 0, none⟩) (cell_block hm)).trans hm) (hM.on (hW.block m hM.lt)) h0

/-- Keys under way: in the box Bs lies a list of those that came. -/
structure KsSt (Bs : Nat) (w : World) (pre : List Ky) (v : Value) (W : World) : Prop where
  box : W.heap[Bs]? = some (.cells #[v] 50 (0, 0))
  own : KK.Own w.heap.size W v pre
  fr : Fr (fun b => b = Bs) w W
  lt : Bs < w.heap.size

theorem KsSt.nc {Bs : Nat} {w : World} {pre : List Ky} {v : Value} {W W' : World} {row : Option Nat} (h : KsSt Bs w pre v W) (hg : W.grownBy W' row) (hr : ∀ r, row = some r → w.heap.size ≤ r ∧ ∃ ob : Obj, W.heap[r]? = some ob ∧ ob.isCells = false) : KsSt Bs w pre v W' :=
  ⟨cells_nc h.box hg fun r e => (hr r e).2, own_nc h.own hg fun r e => (hr r e).2, Fr.then h.fr (fr_row hg) fun b hb => Or.inr (hr b hb).1, h.lt⟩

theorem KsSt.own_from (Bs : Nat) (w : World) : OwnFrom w.heap.size (fun pre W => ∃ v, KsSt Bs w pre v W) := by
  rintro s W W' row ⟨v, h⟩ hg hr
  exact ⟨v, h.nc hg hr⟩

theorem ks_push {Bs : Nat} {w : World} {pre : List Ky} {v v' : Value} {W W4 w1 : World} {x : Ky} (h : KsSt Bs w pre v W) (hb4 : Below W.heap.size W W4) (hg : W4.grownBy w1 v.ownBlock) (ho1 : KK.Own w.heap.size w1 v' (pre ++ [x])) :
    KeepsFrom w.heap.size W (w1.setCell ⟨Bs, 0, none⟩ v') ∧ KpW W (w1.setCell ⟨Bs, 0, none⟩ v') ∧ KsSt Bs w (pre ++ [x]) v' (w1.setCell ⟨Bs, 0, none⟩ v') := by
  have hlt := h.lt
  have hfs := h.fr.size
  have hblk : ∀ b, v.ownBlock = some b → w.heap.size ≤ b ∧ ∃ cs, W.heap[b]? = some (.cells cs 31 (0, 0)) := fun b hb => ⟨(World.ownsRow.lt h.own b hb).1, own_type h.own hb⟩
  have fset : Fr (fun b => b = Bs) w1 (w1.setCell ⟨Bs, 0, none⟩ v') := Fr.of_grown (grown_set w1 Bs 0 v') fun k hk => by injection hk with hk; exact hk.symm
  have f41 : Fr (fun b => v.ownBlock = some b) W w1 := Fr.then (Fr.of_below hb4) (fr_row hg) fun b hb => Or.inl hb
  have f5 : Fr (fun b => b = Bs ∨ v.ownBlock = some b) W (w1.setCell ⟨Bs, 0, none⟩ v') := Fr.then (f41.mono fun b hb => Or.inr hb) fset fun b hb => Or.inl (Or.inl hb)
  have hbox1 : w1.heap[Bs]? = some (.cells #[v] 50 (0, 0)) := (f41.block Bs (by omega) fun e => by have := (hblk Bs e).1; omega).trans h.box
  have hcell : ∀ b, (b = Bs ∨ v.ownBlock = some b) → ∃ cs t fz, W.heap[b]? = some (.cells cs t fz) := fun b hb => by
    rcases hb with rfl | hb
    · exact ⟨_, _, _, h.box⟩
    · obtain ⟨cs, h1⟩ := (hblk b hb).2
      exact ⟨_, _, _, h1⟩
  refine ⟨keeps_of f5 fun b _ e => hcell b e, kpW_fr f5 fun b hb _ => hcell b hb, heap_setCell_same w1 Bs 0 _ _ _ hbox1, fset.row ho1 fun k hk e => ?_, Fr.then h.fr f5 fun b hb => ?_, hlt⟩
  · have := (World.ownsRow.lt ho1 k hk).1; omega
  · rcases hb with hb | hb
    · exact Or.inl hb
    · exact Or.inr (hblk b hb).1

/-- In a round: the box of the loop variable. -/
def AxK (Bs : Nat) (w : World) (n : Nat) (A : Nat → Ky → Act) (pre : List Ky) (x : Ky) (a' : Act) (W : World) : Prop :=
  ∃ Bx v, a' = A Bx x ∧ W.heap[Bx]? = some (.cells #[.string x.1, .string x.2] 31 (0, 0)) ∧ KsSt Bs w pre v W ∧ pre.length < n

theorem AxK.own_from (Bs : Nat) (w : World) (n : Nat) (A : Nat → Ky → Act) (pre : List Ky) (x : Ky) (a' : Act) : OwnFrom w.heap.size (fun (_ : Unit) W => AxK Bs w n A pre x a' W) := by
  rintro _ W W' row ⟨Bx, v, h1, h2, h3, h4⟩ hg hr
  exact ⟨Bx, v, h1, cells_nc h2 hg fun r e => (hr r e).2, h3.nc hg hr, h4⟩

/-- Keys collected, in whatever order. -/
def CollPost (w : World) (f : Ky → Option Nat) (e : Ending) (w' : World) : Prop :=
  ∃ u ks, e = .returned u ∧ KK.Own w.heap.size w' u ks ∧ ks.Nodup ∧ (∀ k, k ∈ ks ↔ FitK k ∧ (f k).isSome = true) ∧ Below w.heap.size w w'

set_option maxHeartbeats 4000000 in
set_option maxRecDepth 100000 in
theorem appendseq_any {W0 : World} {Bm m n : Nat} {f : Ky → Option Nat} (hm : W0.cell? ⟨Bm, 0, none⟩ = some (.map (some m))) (hM : MapD W0 m n f) (hn : n ≤ 2400000000000) :
    Calls Tryz.prog 159 #[.slice none 0 0, .func (.func 132) #[] #[.pointer (some ⟨Bm, 0, none⟩)]] W0 fun e w' => CollPost W0 f e w' := by
  obtain ⟨N, hN⟩ : ∃ N, W0.heap.size = N := ⟨_, rfl⟩
  obtain ⟨w4, hw4⟩ : ∃ w4, W0.alloc (.cells #[.slice none 0 0] 50) = w4 := ⟨_, rfl⟩
  have hb4 : Below N W0 w4 := by rw [← hw4, ← hN]; exact (Below.refl _ _).alloc (Nat.le_refl _) _
  have hs4 : w4.heap.size = N + 1 := by rw [← hw4, ← hN]; simp
  have x0 : w4.heap[N]? = some (.cells #[.slice none 0 0] 50 (0, 0)) := by rw [← hw4, ← hN]; exact heap_alloc_new W0 _
  have hSEQ := mkeys_seq (nn := 2) (by decide) ((hb4.cell (p := ⟨Bm, 0, none⟩) (show Bm < N by rw [← hN]; exact cell_block hm)).trans hm) (hM.on (hb4.block m (by rw [← hN]; exact hM.lt)))
  have HF0 : Hid (KsSt N w4 [] (.slice none 0 0) w4) := ⟨x0, KK.own_nil _ _, Fr.refl _ _, by omega⟩
  have HB04 := hid hb4
  clear hb4 x0 hm hM
  have hen := enters_of (P := Tryz.prog) Tryz.func132 (by kernel_rfl) rfl
  refine (callsIn_wide (n := 3)).1 ?_
  refine callsIn_of_wp_marks Tryz.func159 rfl trivial ?_ rfl
  simp only [Tryz.ntmps159, List.size_toArray, List.length_cons, List.length_nil, Nat.reduceAdd, Nat.reduceSub, Array.replicate_succ, Array.replicate_zero, List.push_toArray, List.append_toArray, List.nil_append, List.cons_append]
  gi_wp2
  refine wpIn_rangeFunc_mem (w := w4) rfl (by decide) (gf := 132) (lb := #[.pointer (some ⟨Bm, 0, none⟩)]) rfl trivial hen
    hSEQ kpW_trans (fun W l o' _ hr => kpW_put W l o' hr) (fun _ => rfl) (fun pre W => ∃ v, KsSt N w4 pre v W) (fun _ _ _ => False) (KsSt.own_from _ _) (fun _ _ _ _ _ h _ _ => h.elim) ⟨_, HF0.out⟩
    (AxK N w4 n (fun Bx x => { tmps := #[.slice none 0 0, .func (.func 132) #[] #[.pointer (some ⟨Bm, 0, none⟩)], .pointer (some ⟨N, 0, none⟩), undef, .slice none 0 0, .pointer (some ⟨Bx, 0, none⟩), .func (.func 132) #[] #[.pointer (some ⟨Bm, 0, none⟩)], .agg #[.string x.1, .string x.2], undef, undef, undef, undef, undef], defers := [] }))
    (fun pre x a' => AxK.own_from _ _ _ _ pre x a') ?assign ?body ?done ?stop
  case assign =>
    rintro l pre ⟨ka, kb⟩ W K hlt ⟨v, hF⟩ hG hK
    have hb : Below W.heap.size W (W.alloc (.cells #[.string ka, .string kb] 31)) := (Below.refl _ _).alloc (Nat.le_refl _) _
    have HK := hid (hK _ _ (keeps_of (P := fun _ => False) (Fr.of_below hb) fun b _ e => e.elim) (kpW_fr (P := fun _ => False) (Fr.of_below hb) fun b e _ => e.elim) ⟨W.heap.size, v, rfl, heap_alloc_new W _, hF.nc (grown_of hb) (fun r e => by cases e), hG.2⟩)
    simp only [encKk] at HK ⊢
    clear hK hF hG hb
    gi_wp2
    exact HK.out
  case body =>
    rintro l pre ⟨ka, kb⟩ a' W hlt ⟨Bx, v, rfl, hbx, hF, hplen⟩
    obtain ⟨i0, hi0, hz0, hz1, hz2⟩ := info_parts Tryz.infoKz
    have hsW := hF.fr.size
    obtain ⟨vp, vc, rfl⟩ := Kind.own_shape hF.own
    have z0 : W.cell? ⟨N, 0, none⟩ = some (.slice vp pre.length vc) := by rw [Lib.cell_of_heap hF.box]; rfl
    have z2 : W.cell? ⟨Bx, 0, none⟩ = some (.string ka) := by rw [Lib.cell_of_heap hbx]; rfl
    have z3 : W.cell? ⟨Bx, 1, none⟩ = some (.string kb) := by rw [Lib.cell_of_heap hbx]; rfl
    have HF := hid hF
    have HI := hid hi0
    have HO5 := hid hF.own
    have KB6 : Hid (∀ o (w6 : World), (W.alloc o).grownBy w6 (Value.slice vp pre.length vc).ownBlock → w6.cell? ⟨N, 0, none⟩ = some (.slice vp pre.length vc) ∧ w6.frozen? ⟨N, 0, none⟩ = false) := fun o w6 hg => by
      have h1 : w6.heap[N]? = some (.cells #[.slice vp pre.length vc] 50 (0, 0)) := (hg.block N (by simp; omega) fun e => by have := (World.ownsRow.lt HO5.out _ e.symm).1; omega).trans ((Below.heap_alloc _ _ _ (by omega)).trans HF.out.box)
      exact ⟨by rw [Lib.cell_of_heap h1]; rfl, Lib.frozen_of_heap h1 0⟩
    clear hF hi0 hbx
    gi_wp2_with (first
      | (gi_at_builtin; refine wpListIn_append_own _ rfl _ _ 50 rfl w4.heap.size 31 i0 (.agg #[.string ⟨#[]⟩, .string ⟨#[]⟩]) 2 32 Tryz.underlying50 HI.out hz0 hz1 hz2 rfl (by decide) _ _ _ rfl (World.ownsRow.alloc HO5.out _) _ 1 1 [.string ka, .string kb] rfl rfl (fun j u hj => KK.newsN W (ka, kb) _ (by simp) j u hj) (by intro u hu; simp at hu; rcases hu with rfl | rfl <;> rfl) (by unfold maxLen; omega) (by omega) (by simp; omega) ?_; intro v6 w6 hown6 hg6 hnil6; obtain ⟨g6, c6, rfl⟩ := ownsRow_succ hown6; obtain ⟨t0, t1⟩ := KB6.out _ _ hg6; have HO6 := hid hown6; have HG6 := hid hg6; clear hown6 hg6 hnil6))
    obtain ⟨r1, r2, r3⟩ := ks_push (x := (ka, kb)) HF.out ((Below.refl _ W).alloc (Nat.le_refl _) _) HG6.out (Kind.own_snoc HO6.out rfl rfl)
    exact ⟨r1, r2, _, r3⟩
  case done =>
    rintro xs W hS ⟨v, hF⟩ hK
    obtain ⟨vp, vc, rfl⟩ := Kind.own_shape hF.own
    have c0 : W.cell? ⟨N, 0, none⟩ = some (.slice vp xs.length vc) := by rw [Lib.cell_of_heap hF.box]; rfl
    have hgp : W.grownBy (W.putObj w4.heap.size (.deferred none)) (some w4.heap.size) := grownBy_putObj' W _ _
    have hFp := hF.nc hgp fun r e => by injection e with e; rw [← e]; exact ⟨Nat.le_refl _, _, hK, rfl⟩
    have hb0 : Below N W0 (W.putObj w4.heap.size (.deferred none)) := HB04.out.trans (hFp.fr.below (N := N) (by omega) fun k hk => by omega)
    have HP : Hid (CollPost W0 f (.returned (.slice vp xs.length vc)) (W.putObj w4.heap.size (.deferred none))) :=
      ⟨_, xs, rfl, Kind.own_weak hFp.own (by omega), hS.1, hS.2, by rw [hN]; exact hb0⟩
    have HK := hid hK
    clear hF hFp hgp hb0 hK
    gi_wp2
    refine ⟨by simp, .inl ⟨_, _, rfl, run_takeDeferred HK.out, ?_⟩⟩
    exact ⟨.slice vp xs.length vc, by simp [results, Tryz.results159, go_sem], HP.out⟩
  case stop =>
    rintro c pre W _ hx _
    exact hx.elim


theorem collect_any {W0 : World} {Bm m n : Nat} {f : Ky → Option Nat} (hm : W0.cell? ⟨Bm, 0, none⟩ = some (.map (some m))) (hM : MapD W0 m n f) (hn : n ≤ 2400000000000) :
    Calls Tryz.prog 131 #[.func (.func 132) #[] #[.pointer (some ⟨Bm, 0, none⟩)]] W0 fun e w' => CollPost W0 f e w' := by
  have HA := hid (appendseq_any hm hM hn)
  clear hm hM
  go_enter Tryz.func131, Tryz.ntmps131
  go_wp2_with fail
  refine HA.out.mono ?_
  rintro e w1 ⟨u, ks, rfl, h1, h2, h3, h4⟩
  have HP : Hid (CollPost W0 f (.returned u) w1) := ⟨u, ks, rfl, h1, h2, h3, h4⟩
  obtain ⟨p, c, rfl⟩ := Kind.own_shape h1
  clear h1 h2 h3 h4 HA
  go_wp2_with fail
  go_ret
  exact HP.out

theorem sorted_rising (ks : List Ky) (hn : ks.Nodup) (d : Array Ky) (hp : PermIn 0 ks.length ks.toArray d) (hs : SortedIn (ltOf Z.cmpK) 0 ks.length d) : RisingR ltKy d.toList ∧ (∀ x, x ∈ d.toList ↔ x ∈ ks) ∧ d.size = ks.length := by
  obtain ⟨h1, _, h3⟩ := hp
  have hsz : d.size = ks.length := by simpa using h1
  have hperm : d.toList.Perm ks := by
    have e1 : (d.extract 0 ks.length).toList = d.toList := by rw [← hsz]; simp
    have e2 : (ks.toArray.extract 0 ks.length).toList = ks := by simp
    rw [e1, e2] at h3
    exact h3
  have hnd : d.toList.Nodup := hperm.nodup_iff.2 hn
  refine ⟨?_, fun x => hperm.mem_iff, hsz⟩
  refine List.pairwise_iff_getElem.2 fun i j hi hj hij => ?_
  have hi' : i < d.size := by simpa using hi
  have hj' : j < d.size := by simpa using hj
  have := hs i j (Nat.zero_le _) hij (by omega)
  rw [getElem!_pos d i hi', getElem!_pos d j hj'] at this
  have hne : d[i] ≠ d[j] := fun e => by
    have := List.pairwise_iff_getElem.1 hnd i j hi hj hij
    exact this (by simpa using e)
  have hlt : Z.ahead d[i] d[j] := by
    rcases Z.ahead_total d[i] d[j] with h | h | h
    · exact h
    · exact absurd h hne
    · rw [(Z.ahead_iff _ _).2 h] at this; cases this
  have := (z_lt _ _).1 hlt
  simpa using this

/-- Keys, rising. -/
def RisePost (w : World) (f : Ky → Option Nat) (e : Ending) (w' : World) : Prop :=
  ∃ u ks, e = .returned u ∧ KK.Own w.heap.size w' u ks ∧ RisingR ltKy ks ∧ (∀ k, k ∈ ks ↔ FitK k ∧ (f k).isSome = true) ∧ Below w.heap.size w w'

/-- A row of keys, sorted in place. -/
theorem sortrow_any {B : Nat} {w : World} {u : Value} {ks : List Ky} (h : KK.Own B w u ks) (hn : ks.Nodup) (hl : ks.length ≤ 2400000000000) (hB : B ≤ w.heap.size) :
    Calls Tryz.prog 84 #[u, .func (.func 82) #[] #[]] w fun e w' => e = .returned (.tuple #[]) ∧ ∃ l, KK.Own B w' u l ∧ RisingR ltKy l ∧ (∀ x, x ∈ l ↔ x ∈ ks) ∧ l.length = ks.length ∧ Below B w w' := by
  rcases h.2 with ⟨rfl, hz⟩ | ⟨g, cap, cur, rfl, _⟩
  · obtain rfl := List.length_eq_zero_iff.1 hz
    refine (sortfunc_nil w).mono ?_
    rintro e w' ⟨rfl, rfl⟩
    exact ⟨rfl, [], h, List.Pairwise.nil, fun x => Iff.rfl, rfl, Below.refl _ _⟩
  · have hge := Kind.own_ge h
    have hH : HoldsK Z.encKey 2 w g 0 ks.toArray := Kind.own_holds h
    have := Z.zsortfunc_any g 0 cap ks.toArray w hH hge.2.1 (by simp; omega)
    simp only [List.size_toArray] at this
    refine this.mono ?_
    rintro e w' ⟨rfl, d', n, os, hp, hs, rfl⟩
    obtain ⟨h1, h2, h3⟩ := sorted_rising ks hn d' hp hs
    exact ⟨rfl, d'.toList, Kind.own_sorted h d' h3 n os, h1, h2, by simpa using h3, below_sortK Z.encKey 2 (Below.refl _ _) hB g 0 n d' os hge.1⟩

theorem sortedfunc_any {W0 : World} {Bm m n : Nat} {f : Ky → Option Nat} (hm : W0.cell? ⟨Bm, 0, none⟩ = some (.map (some m))) (hM : MapD W0 m n f) (hn : n ≤ 2400000000000) (hlen : ∀ ks : List Ky, ks.Nodup → (∀ k, k ∈ ks ↔ FitK k ∧ (f k).isSome = true) → ks.length ≤ 2400000000000) :
    Calls Tryz.prog 93 #[.func (.func 132) #[] #[.pointer (some ⟨Bm, 0, none⟩)], .func (.func 82) #[] #[]] W0 fun e w' => RisePost W0 f e w' := by
  have HA := hid (collect_any hm hM hn)
  have HL := hid hlen
  clear hm hM hlen
  go_enter Tryz.func93, Tryz.ntmps93
  go_wp2_with fail
  refine HA.out.mono ?_
  rintro e w1 ⟨u, ks, rfl, h1, h2, h3, h4⟩
  have HS := hid (sortrow_any h1 h2 (HL.out ks h2 h3) h4.size)
  have HM := hid h3
  have HB := hid h4
  obtain ⟨p, c, rfl⟩ := Kind.own_shape h1
  clear h1 h2 h3 h4 HA
  go_wp2_with fail
  refine HS.out.mono ?_
  rintro e w2 ⟨rfl, l, k1, k2, k3, k4, k5⟩
  have HP : Hid (RisePost W0 f (.returned (.slice p ks.length c)) w2) := ⟨_, l, rfl, k1, k2, fun k => (k3 k).trans (HM.out k), HB.out.trans k5⟩
  clear k1 k2 k3 k4 k5
  go_wp2_with fail
  go_ret
  exact HP.out

set_option maxHeartbeats 1000000 in
theorem dkeysall_any {n0 : Nat} {W : World} {g m n : Nat} {G : Ky → Cm} {D : List RowD} (h : DirM n0 W g m n G D) (hn : n ≤ 2400000000000) :
    Calls Tryz.prog 63 #[.pointer (some ⟨g, 0, none⟩)] W fun e w' => ∃ u, e = .returned u ∧ KK.Own W.heap.size w' u (D.map Prod.fst) ∧ Below W.heap.size W w' := by
  have HAL := hid (all_is g m W h.cell)
  have hmf : ∀ (fn : Fn) (first cap : Array Value) (w : World), (Instr.makeFunc fn first cap).run Tryz.prog w = .ok (.func fn first cap) w := fun _ _ _ _ => rfl
  have hMK : Calls Tryz.prog 94 #[.map (some m)] W fun e w' => e = .returned (.func (.func 132) #[] #[.pointer (some ⟨W.heap.size, 0, none⟩)]) ∧ w' = W.alloc (.cells #[.map (some m)] 80) := by
    go_enter Tryz.func94, Tryz.ntmps94
    go_wp2_with fail
    go_ret
    exact ⟨rfl, rfl⟩
  have hb1 : Below W.heap.size W (W.alloc (.cells #[.map (some m)] 80)) := (Below.refl _ _).alloc (Nat.le_refl _) _
  have hin : ∀ k, (FitK k ∧ (fOf G D k).isSome = true) ↔ k ∈ D.map Prod.fst := fun k => ⟨fun hk => (there_iff h.ok k).2 (fOf_iff.1 hk.2), fun hk => by
    have := (there_iff h.ok k).1 hk
    exact ⟨key_fit (h.key k this), fOf_iff.2 this⟩⟩
  have hdl := dir_len h.ok
  have hfew := h.few
  have HSF := hid (sortedfunc_any (W0 := W.alloc (.cells #[.map (some m)] 80)) (Bm := W.heap.size) (by simp [go_sem]) (h.map.on (hb1.block m h.map.lt)) hn fun ks hk hm => by
    have h1 := sum_sub (F := fun _ => 1) hk (t := D.map Prod.fst) fun k hk => (hin k).1 ((hm k).1 hk)
    have one : ∀ l : List Ky, (l.map fun _ => 1).sum = l.length := fun l => by induction l with
      | nil => rfl
      | cons _ _ ih => rw [List.map_cons, List.sum_cons, ih, List.length_cons, Nat.add_comm]
    rw [one, one, List.length_map] at h1
    omega)
  have HEQ : Hid (∀ ks : List Ky, RisingR ltKy ks → (∀ k, k ∈ ks ↔ FitK k ∧ (fOf G D k).isSome = true) → ks = D.map Prod.fst) := fun ks hr hm => rising_uniqR totK hr h.ok.rise fun z => (hm z).trans (hin z)
  have HMK := hid hMK
  have HB1 := hid hb1
  clear hMK hb1 hin h
  obtain ⟨K0, hK0⟩ : ∃ K0, D.map Prod.fst = K0 := ⟨_, rfl⟩
  rw [hK0] at HEQ ⊢
  go_enter Tryz.func63, Tryz.ntmps63
  go_wp2_with fail
  refine HAL.out.mono ?_
  rintro e w0 ⟨rfl, rfl⟩
  go_wp2_with fail
  refine HMK.out.mono ?_
  rintro e w1 ⟨rfl, rfl⟩
  go_wp2_with fail
  refine HSF.out.mono ?_
  rintro e w2 ⟨u, ks, rfl, k1, k2, k3, k4⟩
  obtain rfl := HEQ.out ks k2 k3
  have HP : Hid (∃ u', Ending.returned u = .returned u' ∧ KK.Own w0.heap.size w2 u' ks ∧ Below w0.heap.size w0 w2) := ⟨u, rfl, Kind.own_weak k1 (by simp), bel_then HB1.out HB1.out.size k4⟩
  obtain ⟨p, c, rfl⟩ := Kind.own_shape k1
  clear k1 k2 k3 k4
  go_wp2_with fail
  go_ret
  exact HP.out

end Go.Proofs.YtmfhbkickaofcaaGreat

/-
  Walk of a directory (stage 7): what it finds when it is called.
-/
namespace Go.Proofs.YtmfhbkickaofcaaGreat
open Go.RowKit
attribute [local go_sem] Oper.semAt_some

/-- An iterator that Walk made: in its box lies the list of what was found. -/
def WalkPost (w : World) (l : List Fnd) (e : Ending) (w' : World) : Prop :=
  ∃ u fs, e = .returned (.func (.func 64) #[] #[.pointer (some ⟨w.heap.size, 0, none⟩)]) ∧ w'.heap[w.heap.size]? = some (.cells #[u] 40 (0, 0)) ∧ KFd.Own w.heap.size w' u fs ∧ (∀ f ∈ fs, OwnJ w.heap.size w' f.v.sl f.v.o ∧ mayB (f.v.o.map Fx.fld) = true) ∧ fs.map Fd.fnd = l ∧ Below w.heap.size w w'

set_option maxHeartbeats 4000000 in
set_option maxRecDepth 100000 in
theorem dwalk_any {n0 : Nat} {W0 : World} {g m n : Nat} {G : Ky → Cm} {D : List RowD} (h : DirM n0 W0 g m n G D) (hn : n ≤ 1200000000000) (t : Int) :
    Calls Tryz.prog 30 #[.pointer (some ⟨g, 0, none⟩), .int .u64 t] W0 fun e w' => WalkPost W0 (walkD D t) e w' := by
  obtain ⟨N, hN⟩ : ∃ N, W0.heap.size = N := ⟨_, rfl⟩
  obtain ⟨W2, hW2⟩ : ∃ W2, W0.alloc (.cells #[.slice none 0 0] 40) = W2 := ⟨_, rfl⟩
  have hb2 : Below N W0 W2 := by rw [← hW2, ← hN]; exact (Below.refl _ _).alloc (Nat.le_refl _) _
  have hs2 : W2.heap.size = N + 1 := by rw [← hW2, ← hN]; simp
  have hfb : W2.heap[N]? = some (.cells #[.slice none 0 0] 40 (0, 0)) := by rw [← hW2, ← hN]; exact heap_alloc_new W0 _
  have hD2 : DirM n0 W2 g m n G D := h.on (by rw [hN]; exact hb2)
  have HKE := hid (dkeysall_any hD2 (by omega))
  have hkl : (D.map Prod.fst).length ≤ countD D := by rw [List.length_map]; exact dir_len h.ok
  have hfew := h.few
  have HFIT := hid (keysD_fit h (ks := D.map Prod.fst) fun k hk => hk)
  have HEQ := hid (live_walk h.ok t)
  have HBLK : Hid (∀ b, BlkD g m G D b → b < N) := fun b hb => by rw [← hN]; exact (h.blk b hb).2
  have HD2 := hid hD2
  have HB2 := hid hb2
  obtain ⟨keys, hkeys⟩ : ∃ keys, D.map Prod.fst = keys := ⟨_, rfl⟩
  rw [hkeys] at HKE HFIT HEQ hkl
  clear h hD2 hb2 hkeys
  refine (callsIn_wide (n := 3)).1 ?_
  refine callsIn_of_wp_marks Tryz.func30 rfl trivial ?_ rfl
  simp only [Tryz.ntmps30, List.size_toArray, List.length_cons, List.length_nil, Nat.reduceAdd, Nat.reduceSub, Array.replicate_succ, Array.replicate_zero, List.push_toArray, List.append_toArray, List.nil_append, List.cons_append]
  gi_wp2
  refine ⟨trivial, ?_⟩
  gi_at_call 63
  refine (callsIn_wide.2 HKE.out).mono ?_
  rintro e w3 ⟨u, rfl, ho3, hb3⟩
  have hs3 := hb3.size
  obtain ⟨kp, kc, rfl, hrow⟩ := row_keys ho3
  have HROW := hid hrow
  have HB3 := hid hb3
  clear hrow ho3 hb3 HKE
  gi_wp2
  refine ⟨trivial, ?_⟩
  gi_at_call 49
  refine (callsIn_wide.2 (dlive_any w3 g kp keys.length kc t)).mono ?_
  rintro e w4 ⟨rfl, hw4⟩
  obtain ⟨M, hM⟩ : ∃ M, w3.heap.size = M := ⟨_, rfl⟩
  have hb4 : Below M w3 w4 := by rw [hw4, ← hM]; exact (((Below.refl _ _).alloc (Nat.le_refl _) _).alloc (by simp) _).alloc (by simp; omega) _
  have hs4 : w4.heap.size = M + 3 := by rw [hw4, ← hM]; simp
  have x0 : w4.heap[M]? = some (.cells #[.pointer (some ⟨g, 0, none⟩)] 24 (0, 0)) := by
    rw [hw4, ← hM, Below.heap_alloc _ _ _ (by simp; omega), Below.heap_alloc _ _ _ (by simp)]; exact heap_alloc_new w3 _
  have x1 : w4.heap[M + 1]? = some (.cells #[.slice kp keys.length kc] 50 (0, 0)) := by
    rw [hw4, ← hM, Below.heap_alloc _ _ _ (by simp)]; have := heap_alloc_new (w3.alloc (.cells #[.pointer (some ⟨g, 0, none⟩)] 24)) (.cells #[.slice kp keys.length kc] 50); simpa using this
  have x2 : w4.heap[M + 2]? = some (.cells #[.int .u64 t] 32 (0, 0)) := by
    rw [hw4, ← hM]; have := heap_alloc_new ((w3.alloc (.cells #[.pointer (some ⟨g, 0, none⟩)] 24)).alloc (.cells #[.slice kp keys.length kc] 50)) (.cells #[.int .u64 t] 32); simpa using this
  have hb24 : Below W2.heap.size W2 w4 := bel_then HB3.out hs3 (by rw [hM]; exact hb4)
  have hb04 : Below N W0 w4 := HB2.out.trans (hb24.mono (by omega))
  have HLV : Hid (LvAt n0 w4 g m n G D keys t kp kc M (M + 1) (M + 2) N) :=
    ⟨HD2.out.on hb24, x0, x1, x2, HROW.out w4 N (by rw [hM]; exact hb4) (by omega), HFIT.out, by omega, by omega, by omega, by omega, fun hb => by have := HBLK.out _ hb; omega⟩
  have HF0 : Hid (FdSt N w4 (fun _ => true) [] (.slice none 0 0) [] w4) :=
    ⟨(hb24.block N (by omega)).trans hfb, KFd.own_nil _ _, fun f hf => by simp at hf, rfl, Nat.le_refl _, Fr.refl _ _, by omega⟩
  have HB04 := hid hb04
  clear hw4 hb4 x0 x1 x2 hb24 hb04 hfb HB3 HROW HFIT HD2
  have hen := enters_of (P := Tryz.prog) Tryz.func75 (by kernel_rfl) rfl
  rw [hM]
  gi_wp2
  refine wpIn_rangeFunc_mem (w := w4) rfl (by decide) (gf := 75) (lb := #[.pointer (some ⟨M + 1, 0, none⟩), .pointer (some ⟨M, 0, none⟩), .pointer (some ⟨M + 2, 0, none⟩)]) rfl trivial hen
    (live_seq 2 (by decide) HLV.out) kpX_trans (fun W l o' hl _ => kpX_put W l o' hl) (fun _ => rfl) (fun pre W => ∃ v fs, FdSt N w4 (fun _ => true) pre v fs W) (fun _ _ _ => False) (FdSt.own_from _ _ _) (fun _ _ _ _ _ h _ _ => h.elim) ⟨_, _, HF0.out⟩
    (AxX N w4 (fun _ => true) keys.length (fun Bx By x => { tmps := #[.pointer (some ⟨g, 0, none⟩), .int .u64 t, undef, undef, .nilFunc, .pointer (some ⟨N, 0, none⟩), .pointer (some ⟨Bx, 0, none⟩), .pointer (some ⟨By, 0, none⟩), .pointer (some ⟨g, 0, none⟩), .pointer (some ⟨g, 0, none⟩), .slice kp keys.length kc, .int .u64 t,
      .func (.func 75) #[] #[.pointer (some ⟨M + 1, 0, none⟩), .pointer (some ⟨M, 0, none⟩), .pointer (some ⟨M + 2, 0, none⟩)], .agg #[.string x.1.1, .string x.1.2], .agg (encVx x.2).toArray, undef, undef, undef, undef, undef, undef, undef], defers := [] }))
    (fun pre x a' => AxX.own_from _ _ _ _ _ pre x a') ?assign ?body ?done ?stop
  case assign =>
    rintro l pre ⟨⟨ka, kb⟩, x⟩ W K hlt ⟨v, fs, hF⟩ hG hK
    obtain ⟨k1, k2, k3⟩ := AxX.lay (A := fun Bx By (x : Kx) => { tmps := #[.pointer (some ⟨g, 0, none⟩), .int .u64 t, undef, undef, .nilFunc, .pointer (some ⟨N, 0, none⟩), .pointer (some ⟨Bx, 0, none⟩), .pointer (some ⟨By, 0, none⟩), .pointer (some ⟨g, 0, none⟩), .pointer (some ⟨g, 0, none⟩), .slice kp keys.length kc, .int .u64 t,
      .func (.func 75) #[] #[.pointer (some ⟨M + 1, 0, none⟩), .pointer (some ⟨M, 0, none⟩), .pointer (some ⟨M + 2, 0, none⟩)], .agg #[.string x.1.1, .string x.1.2], .agg (encVx x.2).toArray, undef, undef, undef, undef, undef, undef, undef], defers := [] }) hF hG
    have HK := hid (hK _ _ k1 k2 k3)
    obtain ⟨xn, xs, xt, xl, xp, xc, xo⟩ := x
    simp only [encVx, Vx.sl, encKx] at HK ⊢
    clear hK k1 k2 k3 hF hG
    gi_wp2
    exact HK.out
  case body =>
    rintro l pre ⟨⟨ka, kb⟩, x⟩ a' W hlt ⟨Bx, By, v, fs, rfl, hbx, hby, hF, hG⟩
    obtain ⟨i0, hi0, hz0, hz1, hz2⟩ := info_parts Tryz.infoFd
    have hsW := hF.fr.size
    have hlen := hF.len
    have hplen := hG.2.2.1
    obtain ⟨vp, vc, rfl⟩ := Kind.own_shape hF.own
    obtain ⟨q0, q1, q2, q3, q4⟩ := VerAt.cells hby
    have z0 : W.cell? ⟨N, 0, none⟩ = some (.slice vp fs.length vc) := by rw [Lib.cell_of_heap hF.box]; rfl
    have z2 : W.cell? ⟨Bx, 0, none⟩ = some (.string ka) := by rw [Lib.cell_of_heap hbx]; rfl
    have z3 : W.cell? ⟨Bx, 1, none⟩ = some (.string kb) := by rw [Lib.cell_of_heap hbx]; rfl
    have HF := hid hF
    have HG := hid hG
    have HI := hid hi0
    have HO5 := hid hF.own
    have KB6 : Hid (∀ o (w6 : World), (W.alloc o).grownBy w6 (Value.slice vp fs.length vc).ownBlock → w6.cell? ⟨N, 0, none⟩ = some (.slice vp fs.length vc) ∧ w6.frozen? ⟨N, 0, none⟩ = false) := fun o w6 hg => by
      have h1 : w6.heap[N]? = some (.cells #[.slice vp fs.length vc] 40 (0, 0)) := (hg.block N (by simp; omega) fun e => by have := (World.ownsRow.lt HO5.out _ e.symm).1; omega).trans ((Below.heap_alloc _ _ _ (by omega)).trans HF.out.box)
      exact ⟨by rw [Lib.cell_of_heap h1]; rfl, Lib.frozen_of_heap h1 0⟩
    clear hF hG hbx hi0 hby
    obtain ⟨xn, xs, xt, xl, xp, xc, xo⟩ := x
    simp only [encVx, Vx.sl] at *
    gi_wp2_with (first
      | (gi_at_builtin; refine wpListIn_append_own _ rfl _ _ 40 rfl w4.heap.size 63 i0 (.agg #[.string ⟨#[]⟩, .string ⟨#[]⟩, .int .i64 0, .int .u64 0, .int .i64 0, .bool false, .slice none 0 0]) 7 88 Tryz.underlying40 HI.out hz0 hz1 hz2 rfl (by decide) _ _ _ rfl (World.ownsRow.alloc HO5.out _) _ 1 1 [.string ka, .string kb, .int .i64 xn, .int .u64 xs, .int .i64 xt, .bool xl, .slice xp xo.length xc] rfl rfl (fun j u hj => KFd.newsN W ⟨ka, kb, ⟨xn, xs, xt, xl, xp, xc, xo⟩⟩ _ (by simp) j u hj) (by intro u hu; simp at hu; rcases hu with rfl | rfl | rfl | rfl | rfl | rfl | rfl <;> rfl) (by unfold maxLen; omega) (by omega) (by simp; omega) ?_; intro v6 w6 hown6 hg6 hnil6; obtain ⟨g6, c6, rfl⟩ := ownsRow_succ hown6; obtain ⟨t0, t1⟩ := KB6.out _ _ hg6; have HO6 := hid hown6; have HG6 := hid hg6; clear hown6 hg6 hnil6))
    obtain ⟨r1, r2, r3⟩ := fd_push (x := ((ka, kb), ⟨xn, xs, xt, xl, xp, xc, xo⟩)) HF.out HG.out ((Below.refl _ W).alloc (Nat.le_refl _) _) HG6.out (Kind.own_snoc HO6.out rfl rfl) rfl
    exact ⟨r1, r2, _, _, r3⟩
  case done =>
    rintro xs W hS ⟨v, fs, hF⟩ hK
    have hmf : ∀ (fn : Fn) (first cap : Array Value) (w : World), (Instr.makeFunc fn first cap).run Tryz.prog w = .ok (.func fn first cap) w := fun _ _ _ _ => rfl
    have hgp : W.grownBy (W.putObj w4.heap.size (.deferred none)) (some w4.heap.size) := grownBy_putObj' W _ _
    have hFp := hF.nc hgp fun r e => by injection e with e; rw [← e]; exact ⟨Nat.le_refl _, _, hK, rfl⟩
    have hb0 : Below N W0 (W.putObj w4.heap.size (.deferred none)) := HB04.out.trans (hFp.fr.below (N := N) (by omega) fun k hk => by omega)
    have HP : Hid (WalkPost W0 (walkD D t) (.returned (.func (.func 64) #[] #[.pointer (some ⟨N, 0, none⟩)])) (W.putObj w4.heap.size (.deferred none))) := by
      refine ⟨v, fs, by rw [hN], by rw [hN]; exact hFp.box, Kind.own_weak hFp.own (by omega), fun f hf => ⟨own_weakJ (hFp.val f hf).1 (by omega), (hFp.val f hf).2⟩, ?_, by rw [hN]; exact hb0⟩
      rw [hFp.eq, hS, List.filter_eq_self.2 fun _ _ => rfl]
      exact HEQ.out
    have HK := hid hK
    clear hF hFp hgp hb0 hK
    gi_wp2
    refine ⟨by simp, .inl ⟨_, _, rfl, run_takeDeferred HK.out, ?_⟩⟩
    exact ⟨.func (.func 64) #[] #[.pointer (some ⟨N, 0, none⟩)], by simp [results, Tryz.results30, go_sem], HP.out⟩
  case stop =>
    rintro c pre W _ hx _
    exact hx.elim

end Go.Proofs.YtmfhbkickaofcaaGreat

/-
  A value in memory of its own, as a directory's walk hands it out (stage 7).
-/
namespace Go.Proofs.YtmfhbkickaofcaaGreat
open Go.RowKit

set_option maxHeartbeats 4000000 in
set_option maxRecDepth 100000 in
theorem dcopied_any (v : Value) (d : List Fx) (w : World) (hv : IsXs w v d) (hf : FitX d) (hc : CopyX d) :
    Calls Tryz.prog 65 #[v] w fun e w' => ∃ u o, e = .returned u ∧ OwnJ w.heap.size w' u o ∧ o.map Fx.fld = d.map Fx.fld ∧ Below w.heap.size w w' := by
  have HC := hid (cloneX_any v d w hv hc.1)
  have HT := hid hv.at_all
  have H16 := hid hc.2
  have hl := hf.1
  unfold maxLen at hl
  clear hv hf hc
  go_enter Tryz.func65, Tryz.ntmps65
  go_wp2_with fail
  refine HC.out.mono ?_
  rintro e w1 ⟨u, rfl, ho, hb⟩
  have H0 := hid (CpIn.start ho hb)
  obtain ⟨p, cap, rfl, hp⟩ : ∃ p cap, u = .slice p d.length cap ∧ (0 < d.length → ∃ g, p = some ⟨g, 0, none⟩) := by
    rcases ho.2 with ⟨h1, h2⟩ | ⟨g, cap, _, h1, _⟩
    · exact ⟨none, 0, by rw [h2]; exact h1, fun h => by omega⟩
    · exact ⟨_, _, h1, fun _ => ⟨g, rfl⟩⟩
  have HP := hid hp
  clear ho hb HC hp
  go_wp2_with fail
  go_loopg [9] d.length (fun gg vi wr => ∃ (i : Nat) (o : List Fx), vi = .int .i64 i ∧ i ≤ d.length ∧ d.length - i ≤ gg ∧ Hid (CpIn w (.slice p d.length cap) d i o wr))
  case atStart => exact ⟨0, [], rfl, by omega, by omega, H0.out⟩
  case round =>
    clear H0
    obtain ⟨i, o, rfl, hi, hgk, HI⟩ := hrel
    by_cases hlt : i < d.length
    · have hltz : (i : Int) < (d.length : Int) := by omega
      have hiz : (0 : Int) ≤ i := by omega
      obtain ⟨g, rfl⟩ := HP.out (by omega)
      obtain ⟨c0, f0⟩ := HI.out.cells hlt wr (Below.refl _ _)
      have HCL := hid (HI.out.cells hlt)
      have HCT := hid (cloneT_any (d[i]).p (d[i]).cap (d[i]).txt wr ((HT.out _ (List.getElem_mem hlt)).kept HI.out.bel) (H16.out _ (List.getElem_mem hlt)))
      have HNX : Hid (∀ W5 p5 c5, Below wr.heap.size wr W5 → OwnT wr.heap.size W5 (.slice p5 (d[i]).txt.length c5) (d[i]).txt → CpIn w (.slice (some ⟨g, 0, none⟩) d.length cap) d (i + 1) (o ++ [⟨(d[i]).name, p5, c5, (d[i]).txt⟩]) (W5.setCell ⟨g, i * 2 + 1, none⟩ (.slice p5 (d[i]).txt.length c5))) := fun W5 p5 c5 h1 h2 => HI.out.next hlt h1 h2
      clear HI
      generalize d[i] = x at *
      obtain ⟨nm, p5, c5, ts⟩ := x
      simp only [Fx.sl] at c0 HCL HCT HNX
      go_wp2_with fail
      refine HCT.out.mono ?_
      rintro e w5 ⟨sv, rfl, hot5, hb5⟩
      obtain ⟨p6, c6, rfl⟩ := own_slice hot5
      obtain ⟨q0, q1⟩ := HCL.out w5 hb5
      have HN := hid (HNX.out w5 p6 c6 hb5 hot5)
      clear hot5 hb5 c0 f0
      go_wp2_with fail
      go_roundg (d.length - (i + 1))
      case measure => omega
      exact ⟨i + 1, _, by go_num, by omega, by omega, HN.out⟩
    · have hltz : ¬ (i : Int) < (d.length : Int) := by omega
      have HD := hid (HI.out.done hlt)
      have HB := hid HI.out.bel
      clear HI
      go_wp2_with fail
      go_ret
      exact ⟨_, rfl, o, HD.out.1, HD.out.2, HB.out⟩

end Go.Proofs.YtmfhbkickaofcaaGreat

/-
  The iterator that Walk makes (stage 7).
-/
namespace Go.Proofs.YtmfhbkickaofcaaGreat
open Go.RowKit
attribute [local go_sem] Oper.semAt_some

/-- What was found, in the world Wk in which Walk returned. -/
structure WkAt (B0 : Nat) (Wk : World) (Bw : Nat) (p : Option Addr) (cap : Nat) (fs : List Fd) : Prop where
  box : Wk.heap[Bw]? = some (.cells #[.slice p fs.length cap] 40 (0, 0))
  own : KFd.Own B0 Wk (.slice p fs.length cap) fs
  val : ∀ f ∈ fs, OwnJ B0 Wk f.v.sl f.v.o ∧ mayB (f.v.o.map Fx.fld) = true
  few : fs.length ≤ 1200000000000

theorem WkAt.on {B0 : Nat} {Wk W : World} {Bw : Nat} {p : Option Addr} {cap : Nat} {fs : List Fd} (h : WkAt B0 Wk Bw p cap fs) (hb : Below Wk.heap.size Wk W) : WkAt B0 W Bw p cap fs :=
  ⟨(hb.block Bw (Array.getElem?_eq_some_iff.1 h.box).1).trans h.box, Kind.own_on h.own hb, fun f hf => ⟨(h.val f hf).1.on hb, (h.val f hf).2⟩, h.few⟩

theorem shapeJ {N : Nat} {w : World} {u : Value} {o : List Fx} (h : OwnJ N w u o) : ∃ p c, u = .slice p o.length c := by
  rcases h.1.1.2 with ⟨rfl, hz⟩ | ⟨g, cap, cur, rfl, _⟩
  · exact ⟨none, 0, by rw [hz]⟩
  · exact ⟨_, _, rfl⟩

theorem kpX_below {Bf : Nat} {Wk w W : World} (hb : Below Wk.heap.size Wk w) (hBf : Wk.heap.size ≤ Bf) (h : KpX Bf w.heap.size w W) : Below Wk.heap.size Wk W :=
  hb.trans (Fr.below h hb.size fun k hk => by
    have := hb.size
    rcases hk with hk | hk
    · omega
    · omega)

set_option maxHeartbeats 4000000 in
set_option maxRecDepth 100000 in
theorem walk1_in (nn : Nat) (hnn : 1 ≤ nn) {B0 : Nat} {Wk w : World} {Bw : Nat} {p : Option Addr} {cap : Nat} {fs : List Fd} {Bf : Nat} (h : WkAt B0 Wk Bw p cap fs) (hwk : Below Wk.heap.size Wk w) (hBf : Wk.heap.size ≤ Bf) (l : Nat)
    (J Jx : List Kx → World → Prop) (W : World) (hW : Below w.heap.size w W) (hJ : AbidesFrom W.heap.size J)
    (hY : ∀ pre x W1, J pre W1 → GdX w.heap.size fs.length pre x W1 → YieldAt Fence.wide (nn - 1) Tryz.prog l (encKx x) W1 fun e W' =>
      (e = .returned (.bool true) ∧ J (pre ++ [x]) W' ∧ KpX Bf w.heap.size W1 W') ∨ (e = .returned (.bool false) ∧ Jx (pre ++ [x]) W'))
    (h0 : J [] W) :
    CallsIn Fence.wide nn Tryz.prog 64 #[.func (.yield l) #[] #[], .pointer (some ⟨Bw, 0, none⟩)] W fun e W' => (∃ v, e = .returned v) ∧
      ((∃ xs : List Kx, xs.map fndX = fs.map Fd.fnd ∧ J xs W') ∨ (∃ pre : List Kx, pre.map fndX <+: fs.map Fd.fnd ∧ Jx pre W')) := by
  have HL := hid h
  have HWK := hid hwk
  have hf0 : KpX Bf w.heap.size w W := Fr.of_below hW
  have hl0 := h.on (kpX_below hwk hBf hf0)
  have c1 : W.cell? ⟨Bw, 0, none⟩ = some (.slice p fs.length cap) := by rw [Lib.cell_of_heap hl0.box]; rfl
  have hlen := h.few
  have ST0 : Hid (KpX Bf w.heap.size w W ∧ J [] W) := ⟨hf0, h0⟩
  clear hl0 hf0 h0 h hwk
  refine callsIn_of_wp Tryz.func64 rfl trivial ?_ rfl
  simp only [Tryz.ntmps64, List.size_toArray, List.length_cons, List.length_nil, Nat.reduceAdd, Nat.reduceSub, Array.replicate_succ, Array.replicate_zero, List.push_toArray, List.append_toArray, List.nil_append, List.cons_append]
  gi_wp2
  clear c1
  gi_loopw [8] (fun vi wr => ∃ (i : Nat) (pre : List Kx), vi = .int .i64 i ∧ i ≤ fs.length ∧ KpX Bf w.heap.size w wr ∧ pre.map fndX = (fs.take i).map Fd.fnd ∧ J pre wr ∧ W.heap.size ≤ wr.heap.size) (fun vi _ => fs.length - (intOf vi).toNat)
  case atStart => exact ⟨0, [], rfl, Nat.zero_le _, ST0.out.1, rfl, ST0.out.2, Nat.le_refl _⟩
  case round =>
    obtain ⟨i, pre, rfl, hi, hkp, hpre, hJs, hsz⟩ := hrel
    by_cases hlt : i < fs.length
    · have hltz : (i : Int) < (fs.length : Int) := by omega
      have hiz : (0 : Int) ≤ i := by omega
      have hlv := HL.out.on (kpX_below HWK.out hBf hkp)
      obtain ⟨kb, ko, rfl, hrow⟩ : ∃ b off, p = some ⟨b, off, none⟩ ∧ KFd.At wr b off fs := by
        obtain ⟨p', c', e, hI⟩ := Kind.own_is hlv.own
        injection e with e _ _
        subst e
        rcases hI with hI | hI
        · rw [hI] at hlt; simp at hlt
        · exact hI
      obtain ⟨k0, k1, k2, k3, k4, k5, k6⟩ := kfd_at hrow i hlt
      have hval := hlv.val _ (List.getElem_mem hlt)
      have htk : fs.take (i + 1) = fs.take i ++ [fs[i]] := List.take_succ_eq_append_getElem hlt
      have hplen : pre.length = i := by
        have h1 := congrArg List.length hpre
        rw [List.length_map, List.length_map, List.length_take] at h1
        omega
      obtain ⟨f, hf⟩ : ∃ f, fs[i] = f := ⟨_, rfl⟩
      rw [hf] at k0 k1 k2 k3 k4 k5 k6 hval htk
      have HPF : Hid ((fs.take (i + 1)).map Fd.fnd = pre.map fndX ++ [f.fnd]) := by
        show _ = _
        rw [htk, List.map_append, hpre]
        rfl
      have HPX : Hid ((fs.take (i + 1)).map Fd.fnd <+: fs.map Fd.fnd) := by
        show _ <+: _
        exact ⟨(fs.drop (i + 1)).map Fd.fnd, by rw [← List.map_append, List.take_append_drop]⟩
      obtain ⟨K0, hK0⟩ : ∃ K0, wr.heap.size = K0 := ⟨_, rfl⟩
      obtain ⟨W2, hW2⟩ : ∃ W2, (wr.alloc (.cells (encFd f).toArray 63)).alloc (.cells (encVx f.v).toArray 56) = W2 := ⟨_, rfl⟩
      have hb2 : Below wr.heap.size wr W2 := by rw [← hW2]; exact ((Below.refl _ _).alloc (Nat.le_refl _) _).alloc (by simp) _
      have hs2 : W2.heap.size = K0 + 2 := by rw [← hW2, ← hK0]; simp
      have hf2 : W2.heap[K0]? = some (.cells (encFd f).toArray 63 (0, 0)) := by rw [← hW2, ← hK0, Below.heap_alloc _ _ _ (by simp)]; exact heap_alloc_new wr _
      have hv2 : VerAt W2 (K0 + 1) f.v := by
        rw [← hW2, ← hK0]; have := heap_alloc_new (wr.alloc (.cells (encFd f).toArray 63)) (.cells (encVx f.v).toArray 56); simpa [VerAt] using this
      obtain ⟨hfit, hcopy⟩ := may_fit hval.2
      have HCP := hid (dcopied_any f.v.sl f.v.o W2 (hval.1.1.is.kept hb2) hfit hcopy)
      have hkp2 : KpX Bf w.heap.size w W2 := kpX_trans hkp (Fr.of_below hb2)
      have HMAY := hid hval.2
      have HJS := hid hJs
      have HKP2 := hid hkp2
      have HB2 := hid hb2
      have hsw : w.heap.size ≤ K0 := by rw [← hK0]; exact hkp.size
      obtain ⟨q0, q1, q2, q3, q4⟩ := VerAt.cells hv2
      have HF2 := hid hf2
      have HV2 := hid hv2
      obtain ⟨fa, fb, xn, xs, xt, xl, xp, xc, xo⟩ := f
      simp only [encFd, encVx, Vx.sl] at *
      have f0 : W2.cell? ⟨K0, 0, none⟩ = some (.string fa) := by rw [Lib.cell_of_heap hf2]; rfl
      clear hlv hrow hval htk hf hb2 hkp hkp2 hpre hJs hfit hcopy hv2 hf2
      gi_wp2
      refine ⟨trivial, ?_⟩
      gi_at_call 65
      refine (callsIn_wide.2 HCP.out).mono ?_
      rintro e w3 ⟨u, o, rfl, hJ3, hfld, hb3⟩
      have hs3 := hb3.size
      obtain ⟨up, uc, rfl⟩ := shapeJ hJ3
      have hv3 : VerAt w3 (K0 + 1) ⟨xn, xs, xt, xl, xp, xc, xo⟩ := (hb3.block (K0 + 1) (by omega)).trans HV2.out
      have hf3 : w3.heap[K0]? = some (.cells #[.string fa, .string fb, .int .i64 xn, .int .u64 xs, .int .i64 xt, .bool xl, .slice xp xo.length xc] 63 (0, 0)) := (hb3.block K0 (by omega)).trans HF2.out
      have r4 := hv3.free 4
      have z4 := hv3.cells.2.2.2.2
      obtain ⟨W4, hW4⟩ : ∃ W4, w3.setCell ⟨K0 + 1, 4, none⟩ (.slice up o.length uc) = W4 := ⟨_, rfl⟩
      have hv4 : VerAt W4 (K0 + 1) ⟨xn, xs, xt, xl, up, uc, o⟩ := by
        rw [← hW4]
        exact heap_setCell_same w3 (K0 + 1) 4 _ _ _ hv3
      have hf4 : W4.heap[K0]? = some (.cells #[.string fa, .string fb, .int .i64 xn, .int .u64 xs, .int .i64 xt, .bool xl, .slice xp xo.length xc] 63 (0, 0)) := by
        rw [← hW4]; exact (Below.heap_setCell _ _ _ _ (by show K0 ≠ K0 + 1; omega)).trans hf3
      have hb34 : Below K0 wr W4 := by
        rw [← hW4]
        have h1 := HB2.out
        rw [hK0] at h1
        exact (h1.trans (hb3.mono (by omega))).setCell (p := ⟨K0 + 1, 4, none⟩) (by show K0 ≤ K0 + 1; omega) _
      have hJ4' : OwnJ (K0 + 2) W4 (.slice up o.length uc) o := by
        rw [← hW4]
        exact ownJ_set (own_weakJ hJ3 (by omega)) (by omega) _
      have hs4 : W4.heap.size = w3.heap.size := by rw [← hW4]; simp [World.setCell]
      have e0 : W4.cell? ⟨K0, 0, none⟩ = some (.string fa) := by rw [Lib.cell_of_heap hf4]; rfl
      have e1 : W4.cell? ⟨K0, 1, none⟩ = some (.string fb) := by rw [Lib.cell_of_heap hf4]; rfl
      obtain ⟨v0, v1, v2, v3, v4⟩ := hv4.cells
      have hJ4 : J pre W4 := hJ pre wr W4 none HJS.out (grown_of (by rw [hK0]; exact hb34)) fun r e => by cases e
      have hkp4 : KpX Bf w.heap.size w W4 := kpX_trans HKP2.out (Fr.mono (P := fun b => b = K0 + 1) (by
        rw [← hW4]
        exact Fr.then (Fr.of_below hb3) (Fr.of_grown (grown_set w3 (K0 + 1) 4 _) fun k hk => by injection hk with hk; exact hk.symm) fun b hb => Or.inl hb) fun b hb => Or.inr (by omega))
      have hmay : mayB (o.map Fx.fld) = true := by rw [hfld]; exact HMAY.out
      have hver : (⟨xn, xs, xt, xl, up, uc, o⟩ : Vx).ver = (⟨xn, xs, xt, xl, xp, xc, xo⟩ : Vx).ver := by
        unfold Vx.ver
        simp only [hfld]
      have HNX : Hid ((pre ++ [((fa, fb), (⟨xn, xs, xt, xl, up, uc, o⟩ : Vx))]).map fndX = (fs.take (i + 1)).map Fd.fnd) := by
        show _ = _
        rw [HPF.out, List.map_append]
        simp only [List.map_cons, List.map_nil, fndX, hver]
        rfl
      obtain ⟨fn, tmps, assign, body, hy, hR⟩ := hY pre ((fa, fb), ⟨xn, xs, xt, xl, up, uc, o⟩) W4 hJ4 ⟨own_weakJ hJ4' (by omega), hmay, by omega, by omega⟩
      simp only [encKx, encVx, Vx.sl] at hy
      have HKP4 := hid hkp4
      have hs24 : W.heap.size ≤ W4.heap.size := by omega
      simp only [Vx.sl] at z4 v4
      clear hJ3 hfld hb3 hv3 hf3 hv4 hf4 hb34 hJ4' hJ4 hkp4 hmay hver HCP HJS HMAY q0 q1 q2 q3 q4 f0 k0 k1 k2 k3 k4 k5 k6 hs4
      gi_wp2
      refine hR.mono ?_
      rintro e W5 (⟨rfl, hJ5, hk5⟩ | ⟨rfl, hJx5⟩)
      · have HK5 := hid (kpX_trans HKP4.out hk5)
        have HJ5 := hid hJ5
        have hs5 : W.heap.size ≤ W5.heap.size := Nat.le_trans hs24 hk5.size
        clear hk5 hJ5
        gi_wp2
        go_roundw
        case rel => exact ⟨i + 1, _, by go_num, by omega, HK5.out, HNX.out, HJ5.out, hs5⟩
        case measure => simp [intOf]; omega
      · gi_wp2
        refine bodyPost_ret (results_none rfl _ _ _) rfl ?_
        exact ⟨⟨_, rfl⟩, .inr ⟨_, by rw [HNX.out]; exact HPX.out, hJx5⟩⟩
    · have hltz : ¬ (i : Int) < (fs.length : Int) := by omega
      have hti : fs.take i = fs := List.take_of_length_le (by omega)
      rw [hti] at hpre
      gi_wp2
      go_end0
      exact ⟨⟨_, rfl⟩, .inl ⟨pre, hpre, hJs⟩⟩

theorem walk_seq (nn : Nat) (hnn : 1 ≤ nn) {B0 : Nat} {Wk w : World} {Bw : Nat} {p : Option Addr} {cap : Nat} {fs : List Fd} {Bf : Nat} (h : WkAt B0 Wk Bw p cap fs) (hwk : Below Wk.heap.size Wk w) (hBf : Wk.heap.size ≤ Bf) :
    SeqM Fence.wide nn Tryz.prog 64 #[.pointer (some ⟨Bw, 0, none⟩)] encKx (GdX w.heap.size fs.length) (KpX Bf w.heap.size) (fun xs => xs.map fndX = fs.map Fd.fnd) (fun pre => pre.map fndX <+: fs.map Fd.fnd) w :=
  fun l J Jx W hW hJ hY h0 => walk1_in nn hnn h hwk hBf l J Jx W hW hJ hY h0

end Go.Proofs.YtmfhbkickaofcaaGreat

/-
  What a walk gives, as the laws of stage 7 collect it: at most 65537 finds.
-/
namespace Go.Proofs.YtmfhbkickaofcaaGreat
open Go.RowKit
attribute [local go_sem] Oper.semAt_some

/-- A round has returned: the result's box holds what was collected. -/
def WdX (N : Nat) (W0 w4 : World) (c : Code) (pre : List Kx) (W : World) : Prop :=
  c = .ret ∧ pre.length = 65537 ∧ ∃ v fs, W.heap[N]? = some (.cells #[v] 40 (0, 0)) ∧ KFd.Own w4.heap.size W v fs ∧ (∀ f ∈ fs, OwnJ w4.heap.size W f.v.sl f.v.o ∧ mayB (f.v.o.map Fx.fld) = true) ∧ fs.map Fd.fnd = pre.map fndX ∧ Below N W0 W

theorem WdX.own_from {N : Nat} {W0 w4 : World} (hN : N ≤ w4.heap.size) (c : Code) : OwnFrom w4.heap.size (WdX N W0 w4 c) := by
  rintro s W W' row ⟨h1, h2, v, fs, h3, h4, h5, h6, h7⟩ hg hr
  refine ⟨h1, h2, v, fs, cells_nc h3 hg fun r e => (hr r e).2, own_nc h4 hg fun r e => (hr r e).2, fun f hf => ⟨ownJ_nc (h5 f hf).1 hg fun r e => (hr r e).2, (h5 f hf).2⟩, h6, ?_⟩
  have hs := (Array.getElem?_eq_some_iff.1 h3).1
  exact h7.trans ((fr_row hg).below (by omega) fun k hk => by have := (hr k hk).1; omega)

theorem FdSt.all {Bf : Nat} {w : World} {pre : List Kx} {v : Value} {fs : List Fd} {W : World} (h : FdSt Bf w (fun _ => true) pre v fs W) : fs.map Fd.fnd = pre.map fndX ∧ fs.length = pre.length := by
  have e := h.eq
  rw [List.filter_eq_self.2 fun _ _ => rfl] at e
  refine ⟨e, ?_⟩
  have := congrArg List.length e
  simpa using this

theorem eqlIn_func (d : Nat) (w : World) (fn : Fn) (a b : Array Value) : (Op.equalIn (d + 1) 75 (.func fn a b) .nilFunc).run Tryz.prog w = .ok false w := by
  simp [Op.equalIn, run_underlying Tryz.underlying75]
theorem eql_func (w : World) (fn : Fn) (a b : Array Value) : (binOp .eql 75 (.func fn a b) .nilFunc).run Tryz.prog w = .ok (.bool false) w := by
  simp only [binOp]
  simp [show Op.equal 75 (.func fn a b) .nilFunc = Op.equalIn (9999 + 1) 75 (.func fn a b) .nilFunc from rfl, eqlIn_func 9999 w fn a b]

set_option maxHeartbeats 4000000 in
set_option maxRecDepth 100000 in
theorem walked_any {n0 : Nat} {W0 : World} {g m n : Nat} {G : Ky → Cm} {D : List RowD} (h : DirM n0 W0 g m n G D) (hn : n ≤ 1200000000000) (t : Int) :
    Calls Tryz.prog 15 #[.pointer (some ⟨g, 0, none⟩), .int .u64 t] W0 fun e w' => FdPost W0 ((walkD D t).take 65537) e w' := by
  obtain ⟨N, hN⟩ : ∃ N, W0.heap.size = N := ⟨_, rfl⟩
  obtain ⟨W2, hW2⟩ : ∃ W2, W0.alloc (.cells #[.slice none 0 0] 40) = W2 := ⟨_, rfl⟩
  have hb2 : Below N W0 W2 := by rw [← hW2, ← hN]; exact (Below.refl _ _).alloc (Nat.le_refl _) _
  have hs2 : W2.heap.size = N + 1 := by rw [← hW2, ← hN]; simp
  have hfb : W2.heap[N]? = some (.cells #[.slice none 0 0] 40 (0, 0)) := by rw [← hW2, ← hN]; exact heap_alloc_new W0 _
  have HWA := hid (dwalk_any (h.on (by rw [hN]; exact hb2)) hn t)
  have hwl : (walkD D t).length ≤ 1200000000000 := by
    have h1 : (walkD D t).length ≤ D.length := List.length_filterMap_le _ _
    have h2 := dir_len h.ok
    have h3 := h.few
    omega
  obtain ⟨L, hL⟩ : ∃ L, walkD D t = L := ⟨_, rfl⟩
  rw [hL] at HWA hwl ⊢
  have HB2 := hid hb2
  clear h hb2 hL
  refine (callsIn_wide (n := 3)).1 ?_
  refine callsIn_of_wp_marks Tryz.func15 rfl trivial ?_ rfl
  simp only [Tryz.ntmps15, List.size_toArray, List.length_cons, List.length_nil, Nat.reduceAdd, Nat.reduceSub, Array.replicate_succ, Array.replicate_zero, List.push_toArray, List.append_toArray, List.nil_append, List.cons_append]
  gi_wp2
  refine ⟨trivial, ?_⟩
  gi_at_call 30
  refine (callsIn_wide.2 HWA.out).mono ?_
  rintro e w3 ⟨u, fs, rfl, a1, a2, a3, a4, a5⟩
  have hs3 := a5.size
  obtain ⟨kp, kc, rfl⟩ := Kind.own_shape a2
  have hfl : fs.length = L.length := by have := congrArg List.length a4; simpa using this
  have HWK : Hid (WkAt W2.heap.size w3 W2.heap.size kp kc fs) := ⟨a1, a2, a3, by omega⟩
  have HFN := hid a4
  have HB3 := hid a5
  obtain ⟨M, hM⟩ : ∃ M, w3.heap.size = M := ⟨_, rfl⟩
  obtain ⟨w4, hw4⟩ : ∃ w4, w3.alloc (.cells #[.slice none 0 0] 40) = w4 := ⟨_, rfl⟩
  have hb4 : Below w3.heap.size w3 w4 := by rw [← hw4]; exact (Below.refl _ _).alloc (Nat.le_refl _) _
  have hs4 : w4.heap.size = M + 1 := by rw [← hw4, ← hM]; simp
  have hx4 : w4.heap[M]? = some (.cells #[.slice none 0 0] 40 (0, 0)) := by rw [← hw4, ← hM]; exact heap_alloc_new w3 _
  have hb24 : Below W2.heap.size W2 w4 := bel_then a5 hs3 hb4
  have hb04 : Below N W0 w4 := HB2.out.trans (hb24.mono (by omega))
  have hn4 : w4.heap[N]? = some (.cells #[.slice none 0 0] 40 (0, 0)) := (hb24.block N (by omega)).trans hfb
  have HF0 : Hid (FdSt M w4 (fun _ => true) [] (.slice none 0 0) [] w4) := ⟨hx4, KFd.own_nil _ _, fun f hf => by simp at hf, rfl, Nat.le_refl _, Fr.refl _ _, by omega⟩
  have hSEQ := walk_seq (nn := 2) (by decide) HWK.out hb4 (Bf := M) (by omega)
  have HB04 := hid hb04
  have HN4 := hid hn4
  have hM1 : N + 1 ≤ M := by omega
  clear a1 a2 a3 a4 a5 hb4 hx4 hb24 hb04 hn4 HWA HWK HB2 HB3 hfb
  have hen := enters_of (P := Tryz.prog) Tryz.func64 (by kernel_rfl) rfl
  rw [hs2] at hSEQ ⊢
  have hq := eql_func
  gi_wp2
  clear hq
  refine wpIn_rangeFunc_mem (w := w4) rfl (by decide) (gf := 64) (lb := #[.pointer (some ⟨N + 1, 0, none⟩)]) rfl trivial hen
    hSEQ kpX_trans (fun W l o' hl _ => kpX_put W l o' hl) (fun _ => rfl) (fun pre W => (∃ v fs, FdSt M w4 (fun _ => true) pre v fs W) ∧ pre.length ≤ 65536) (WdX N W0 w4) (fun s W W' row hs hg hr => ⟨FdSt.own_from M w4 _ s W W' row hs.1 hg hr, hs.2⟩) (WdX.own_from (by omega)) ⟨⟨_, _, HF0.out⟩, by simp⟩
    (fun pre x a' W => AxX M w4 (fun _ => true) fs.length (fun Bx By x => { tmps := #[.pointer (some ⟨g, 0, none⟩), .int .u64 t, undef, undef, .pointer (some ⟨N, 0, none⟩), .func (.func 64) #[] #[.pointer (some ⟨N + 1, 0, none⟩)], .pointer (some ⟨M, 0, none⟩), .pointer (some ⟨Bx, 0, none⟩), .pointer (some ⟨By, 0, none⟩), .pointer (some ⟨g, 0, none⟩), .int .u64 t, .func (.func 64) #[] #[.pointer (some ⟨N + 1, 0, none⟩)], .func (.func 64) #[] #[.pointer (some ⟨N + 1, 0, none⟩)], .bool false, undef, undef, .func (.func 64) #[] #[.pointer (some ⟨N + 1, 0, none⟩)],
      .agg #[.string x.1.1, .string x.1.2], .agg (encVx x.2).toArray, undef, undef, undef, undef, undef, undef, undef, undef, undef, undef, undef], defers := [] }) pre x a' W ∧ pre.length ≤ 65536)
    (fun pre x a' u W W' row hs hg hr => ⟨AxX.own_from _ _ _ _ _ pre x a' u W W' row hs.1 hg hr, hs.2⟩) ?assign ?body ?done ?stop
  case assign =>
    rintro l pre ⟨⟨ka, kb⟩, x⟩ W K hlt ⟨⟨v, fs, hF⟩, hpl⟩ hG hK
    obtain ⟨k1, k2, k3⟩ := AxX.lay (A := fun Bx By (x : Kx) => { tmps := #[.pointer (some ⟨g, 0, none⟩), .int .u64 t, undef, undef, .pointer (some ⟨N, 0, none⟩), .func (.func 64) #[] #[.pointer (some ⟨N + 1, 0, none⟩)], .pointer (some ⟨M, 0, none⟩), .pointer (some ⟨Bx, 0, none⟩), .pointer (some ⟨By, 0, none⟩), .pointer (some ⟨g, 0, none⟩), .int .u64 t, .func (.func 64) #[] #[.pointer (some ⟨N + 1, 0, none⟩)], .func (.func 64) #[] #[.pointer (some ⟨N + 1, 0, none⟩)], .bool false, undef, undef, .func (.func 64) #[] #[.pointer (some ⟨N + 1, 0, none⟩)],
      .agg #[.string x.1.1, .string x.1.2], .agg (encVx x.2).toArray, undef, undef, undef, undef, undef, undef, undef, undef, undef, undef, undef], defers := [] }) hF hG
    have HK := hid (hK _ _ k1 k2 ⟨k3, hpl⟩)
    obtain ⟨xn, xs, xt, xl, xp, xc, xo⟩ := x
    simp only [encVx, Vx.sl, encKx] at HK ⊢
    clear hK k1 k2 k3 hF hG
    gi_wp2
    exact HK.out
  case body =>
    rintro l pre ⟨⟨ka, kb⟩, x⟩ a' W hlt ⟨⟨Bx, By, v, fs, rfl, hbx, hby, hF, hG⟩, hpl⟩
    obtain ⟨i0, hi0, hz0, hz1, hz2⟩ := info_parts Tryz.infoFd
    have hsW := hF.fr.size
    have hlen := hF.all.2
    have hplen := hG.2.2.1
    obtain ⟨vp, vc, rfl⟩ := Kind.own_shape hF.own
    obtain ⟨q0, q1, q2, q3, q4⟩ := VerAt.cells hby
    have z0 : W.cell? ⟨M, 0, none⟩ = some (.slice vp fs.length vc) := by rw [Lib.cell_of_heap hF.box]; rfl
    have z2 : W.cell? ⟨Bx, 0, none⟩ = some (.string ka) := by rw [Lib.cell_of_heap hbx]; rfl
    have z3 : W.cell? ⟨Bx, 1, none⟩ = some (.string kb) := by rw [Lib.cell_of_heap hbx]; rfl
    have HF := hid hF
    have HG := hid hG
    have HI := hid hi0
    have HO5 := hid hF.own
    have KB6 : Hid (∀ o (w6 : World), (W.alloc o).grownBy w6 (Value.slice vp fs.length vc).ownBlock → w6.cell? ⟨M, 0, none⟩ = some (.slice vp fs.length vc) ∧ w6.frozen? ⟨M, 0, none⟩ = false ∧ w6.heap[N]? = some (.cells #[.slice none 0 0] 40 (0, 0))) := fun o w6 hg => by
      have h1 : w6.heap[M]? = some (.cells #[.slice vp fs.length vc] 40 (0, 0)) := (hg.block M (by simp; omega) fun e => by have := (World.ownsRow.lt HO5.out _ e.symm).1; omega).trans ((Below.heap_alloc _ _ _ (by omega)).trans HF.out.box)
      exact ⟨by rw [Lib.cell_of_heap h1]; rfl, Lib.frozen_of_heap h1 0, (hg.block N (by simp; omega) fun e => by have := (World.ownsRow.lt HO5.out _ e.symm).1; omega).trans ((Below.heap_alloc _ _ _ (by omega)).trans ((HF.out.fr.block N (by omega) (by omega)).trans HN4.out))⟩
    clear hF hG hbx hi0 hby
    obtain ⟨xn, xs, xt, xl, xp, xc, xo⟩ := x
    simp only [encVx, Vx.sl] at *
    have hNM : N ≠ M := by omega
    have HPL := hid hpl
    have HLEN := hid hlen
    have hfl3 : fs.length ≤ 1200000000000 := by omega
    have hM4 : M < w4.heap.size := by omega
    have hN4 : N < w4.heap.size := by omega
    clear hs4
    by_cases hbig : pre.length = 65536
    · have e9 : (65536 : Int) < (fs.length : Int) + 1 := by omega
      have HBIG := hid hbig
      clear hbig hpl hlen hplen
      gi_wp2_with (first
        | (gi_at_builtin; refine wpListIn_append_own _ rfl _ _ 40 rfl w4.heap.size 63 i0 (.agg #[.string ⟨#[]⟩, .string ⟨#[]⟩, .int .i64 0, .int .u64 0, .int .i64 0, .bool false, .slice none 0 0]) 7 88 Tryz.underlying40 HI.out hz0 hz1 hz2 rfl (by decide) _ _ _ rfl (World.ownsRow.alloc HO5.out _) _ 1 1 [.string ka, .string kb, .int .i64 xn, .int .u64 xs, .int .i64 xt, .bool xl, .slice xp xo.length xc] rfl rfl (fun j u hj => KFd.newsN W ⟨ka, kb, ⟨xn, xs, xt, xl, xp, xc, xo⟩⟩ _ (by simp) j u hj) (by intro u hu; simp at hu; rcases hu with rfl | rfl | rfl | rfl | rfl | rfl | rfl <;> rfl) (by unfold maxLen; omega) (by omega) (by simp; omega) ?_; intro v6 w6 hown6 hg6 hnil6; obtain ⟨g6, c6, rfl⟩ := ownsRow_succ hown6; obtain ⟨t0, t1, hn6⟩ := KB6.out _ _ hg6; have t2 : w6.cell? ⟨N, 0, none⟩ = some (.slice none 0 0) := (by rw [Lib.cell_of_heap hn6]; rfl); have t3 : w6.frozen? ⟨N, 0, none⟩ = false := Lib.frozen_of_heap hn6 0; have HN6 := hid hn6; have HO6 := hid hown6; have HG6 := hid hg6; clear hown6 hg6 hnil6 hn6))
      obtain ⟨r1, r2, r3⟩ := fd_push (x := ((ka, kb), ⟨xn, xs, xt, xl, xp, xc, xo⟩)) HF.out HG.out ((Below.refl _ W).alloc (Nat.le_refl _) _) HG6.out (Kind.own_snoc HO6.out rfl rfl) rfl
      refine ⟨r1.trans ((KeepsOthers.setCell _ _ _).from _), rfl, by rw [List.length_append, List.length_singleton, HBIG.out], .slice (some ⟨g6, 0, none⟩) (fs.length + 1) c6, _, ?_, ?_, fun f hf => ⟨?_, (r3.val f hf).2⟩, r3.all.1, ?_⟩
      · refine heap_setCell_same _ N 0 #[.slice none 0 0] _ (.slice (some ⟨g6, 0, none⟩) (fs.length + 1) c6) ?_
        exact (Below.heap_setCell _ _ _ _ (by show N ≠ M; omega)).trans HN6.out
      · exact (Fr.of_grown (P := fun b => b = N) (grown_set _ N 0 _) fun k hk => by injection hk with hk; exact hk.symm).row r3.own fun k hk e => by have := (World.ownsRow.lt r3.own k hk).1; omega
      · exact ownJ_set (r3.val f hf).1 (by omega) _
      · exact ((HB04.out.trans (r3.fr.below (N := N) (by omega) fun k hk => by omega))).setCell (p := ⟨N, 0, none⟩) (Nat.le_refl _) _
    · have e9 : ¬ (65536 : Int) < (fs.length : Int) + 1 := by omega
      have HBIG := hid hbig
      clear hbig hpl hlen hplen
      gi_wp2_with (first
        | (gi_at_builtin; refine wpListIn_append_own _ rfl _ _ 40 rfl w4.heap.size 63 i0 (.agg #[.string ⟨#[]⟩, .string ⟨#[]⟩, .int .i64 0, .int .u64 0, .int .i64 0, .bool false, .slice none 0 0]) 7 88 Tryz.underlying40 HI.out hz0 hz1 hz2 rfl (by decide) _ _ _ rfl (World.ownsRow.alloc HO5.out _) _ 1 1 [.string ka, .string kb, .int .i64 xn, .int .u64 xs, .int .i64 xt, .bool xl, .slice xp xo.length xc] rfl rfl (fun j u hj => KFd.newsN W ⟨ka, kb, ⟨xn, xs, xt, xl, xp, xc, xo⟩⟩ _ (by simp) j u hj) (by intro u hu; simp at hu; rcases hu with rfl | rfl | rfl | rfl | rfl | rfl | rfl <;> rfl) (by unfold maxLen; omega) (by omega) (by simp; omega) ?_; intro v6 w6 hown6 hg6 hnil6; obtain ⟨g6, c6, rfl⟩ := ownsRow_succ hown6; obtain ⟨t0, t1, hn6⟩ := KB6.out _ _ hg6; have t2 : w6.cell? ⟨N, 0, none⟩ = some (.slice none 0 0) := (by rw [Lib.cell_of_heap hn6]; rfl); have t3 : w6.frozen? ⟨N, 0, none⟩ = false := Lib.frozen_of_heap hn6 0; have HN6 := hid hn6; have HO6 := hid hown6; have HG6 := hid hg6; clear hown6 hg6 hnil6 hn6))
      obtain ⟨r1, r2, r3⟩ := fd_push (x := ((ka, kb), ⟨xn, xs, xt, xl, xp, xc, xo⟩)) HF.out HG.out ((Below.refl _ W).alloc (Nat.le_refl _) _) HG6.out (Kind.own_snoc HO6.out rfl rfl) rfl
      exact ⟨r1, r2, ⟨_, _, r3⟩, by rw [List.length_append, List.length_singleton]; have h1 := HPL.out; have h2 := HBIG.out; omega⟩
  case done =>
    rintro xs W hS ⟨⟨v, fs', hF⟩, hpl⟩ hK
    obtain ⟨vp, vc, rfl⟩ := Kind.own_shape hF.own
    have hsW := hF.fr.size
    have hall := hF.all
    have c0 : W.cell? ⟨M, 0, none⟩ = some (.slice vp fs'.length vc) := by rw [Lib.cell_of_heap hF.box]; rfl
    have hn0 : W.heap[N]? = some (.cells #[.slice none 0 0] 40 (0, 0)) := (hF.fr.block N (by omega) (by omega)).trans HN4.out
    have c1 : W.cell? ⟨N, 0, none⟩ = some (.slice none 0 0) := by rw [Lib.cell_of_heap hn0]; rfl
    have c2 : W.frozen? ⟨N, 0, none⟩ = false := Lib.frozen_of_heap hn0 0
    obtain ⟨W5, hW5⟩ : ∃ W5, W.setCell ⟨N, 0, none⟩ (.slice vp fs'.length vc) = W5 := ⟨_, rfl⟩
    have f5 : Fr (fun b => b = N) W W5 := by rw [← hW5]; exact Fr.of_grown (grown_set W N 0 _) fun k hk => by injection hk with hk; exact hk.symm
    have hn5 : W5.heap[N]? = some (.cells #[.slice vp fs'.length vc] 40 (0, 0)) := by rw [← hW5]; exact heap_setCell_same W N 0 _ _ _ hn0
    have hK5 : W5.heap[w4.heap.size]? = some (.deferred (some [])) := (f5.block _ (Array.getElem?_eq_some_iff.1 hK).1 (by omega)).trans hK
    have hgp : W5.grownBy (W5.putObj w4.heap.size (.deferred none)) (some w4.heap.size) := grownBy_putObj' W5 _ _
    have hnc : ∀ r, some w4.heap.size = some r → ∃ ob : Obj, W5.heap[r]? = some ob ∧ ob.isCells = false := fun r e => by injection e with e; rw [← e]; exact ⟨_, hK5, rfl⟩
    have ho5 : KFd.Own w4.heap.size W5 (.slice vp fs'.length vc) fs' := f5.row hF.own fun k hk e => by have := (World.ownsRow.lt hF.own k hk).1; omega
    have hv5 : ∀ f ∈ fs', OwnJ w4.heap.size W5 f.v.sl f.v.o := fun f hf => by rw [← hW5]; exact ownJ_set (hF.val f hf).1 (by omega) _
    have hbN : Below N W0 W5 := by
      rw [← hW5]
      exact ((HB04.out.trans (hF.fr.below (N := N) (by omega) fun k hk => by omega))).setCell (p := ⟨N, 0, none⟩) (Nat.le_refl _) _
    have hn6 := cells_nc hn5 hgp hnc
    have c6 : (W5.putObj w4.heap.size (.deferred none)).cell? ⟨N, 0, none⟩ = some (.slice vp fs'.length vc) := by rw [Lib.cell_of_heap hn6]; rfl
    have hxl : xs.length = L.length := by
      have := congrArg List.length hS
      rw [List.length_map, HFN.out] at this
      exact this
    have HP : Hid (FdPost W0 (L.take 65537) (.returned (.slice vp fs'.length vc)) (W5.putObj w4.heap.size (.deferred none))) := by
      refine ⟨_, fs', rfl, Kind.own_weak (own_nc ho5 hgp hnc) (by omega), fun f hf => ⟨own_weakJ (ownJ_nc (hv5 f hf) hgp hnc) (by omega), (hF.val f hf).2⟩, ?_, ?_⟩
      · rw [hall.1, hS, HFN.out, List.take_of_length_le (by omega)]
      · rw [hN]
        exact hbN.trans ((fr_row hgp).below (N := N) (by have := f5.size; omega) fun k hk => by injection hk with hk; omega)
    have HK := hid hK5
    clear hF hK hK5 hgp hnc ho5 hv5 hbN hn6 hn5 hn0 f5 hall hpl hxl hS
    gi_wp2
    try rw [hW5]
    refine ⟨by simp, .inl ⟨_, _, rfl, run_takeDeferred HK.out, ?_⟩⟩
    exact ⟨.slice vp fs'.length vc, by simp [results, Tryz.results15, go_sem, c6], HP.out⟩
  case stop =>
    rintro c pre W hSp ⟨rfl, hpl, v, fs', h3, h4, h5, h6, h7⟩ hK
    obtain ⟨vp, vc, rfl⟩ := Kind.own_shape h4
    have hgp : W.grownBy (W.putObj w4.heap.size (.deferred none)) (some w4.heap.size) := grownBy_putObj' W _ _
    have hnc : ∀ r, some w4.heap.size = some r → ∃ ob : Obj, W.heap[r]? = some ob ∧ ob.isCells = false := fun r e => by injection e with e; rw [← e]; exact ⟨_, hK, rfl⟩
    have hn6 := cells_nc h3 hgp hnc
    have c6 : (W.putObj w4.heap.size (.deferred none)).cell? ⟨N, 0, none⟩ = some (.slice vp fs'.length vc) := by rw [Lib.cell_of_heap hn6]; rfl
    have hsW := (Array.getElem?_eq_some_iff.1 hK).1
    have HP : Hid (FdPost W0 (L.take 65537) (.returned (.slice vp fs'.length vc)) (W.putObj w4.heap.size (.deferred none))) := by
      refine ⟨_, fs', rfl, Kind.own_weak (own_nc h4 hgp hnc) (by omega), fun f hf => ⟨own_weakJ (ownJ_nc (h5 f hf).1 hgp hnc) (by omega), (h5 f hf).2⟩, ?_, ?_⟩
      · rw [h6]
        obtain ⟨r, hr⟩ := hSp
        rw [HFN.out] at hr
        rw [← hr, List.take_append_of_le_length (by rw [List.length_map, hpl]; exact Nat.le_refl _), List.take_of_length_le (by rw [List.length_map, hpl]; exact Nat.le_refl _)]
      · rw [hN]
        exact h7.trans ((fr_row hgp).below (N := N) (by omega) fun k hk => by injection hk with hk; omega)
    have HK := hid hK
    clear h3 h4 h5 h6 h7 hK hgp hnc hn6 hpl hSp
    gi_wp2
    refine ⟨by simp, .inl ⟨_, _, rfl, run_takeDeferred HK.out, ?_⟩⟩
    exact ⟨.slice vp fs'.length vc, by simp [results, Tryz.results15, go_sem, c6], HP.out⟩

end Go.Proofs.YtmfhbkickaofcaaGreat

/-
  The library's functions at this program's own numbers: the tables that tie each to the contract that the library proves once.
-/
namespace Go.Proofs
open Go.Shelf
def Tryz.sortFnd_ren : Go.Shelf.Ren := ⟨fun | 6 => 51 | 15 => 79 | 14 => 78 | 28 => 121 | 29 => 122 | 20 => 113 | 21 => 114 | 22 => 115 | 23 => 116 | 24 => 117 | 25 => 118 | 26 => 119 | 27 => 120 | 46 => 140 | 47 => 141 | 48 => 142 | 49 => 143 | 50 => 144 | 57 => 162 | n => n, fun | 22 => 40 | 24 => 63 | 25 => 98 | 3 => 3 | 39 => 120 | 0 => 0 | 53 => 147 | 55 => 32 | 4 => 4 | 46 => 141 | 45 => 140 | 50 => 135 | 5 => 5 | 9 => 9 | 66 => 161 | 70 => 165 | 76 => 175 | 77 => 176 | n => n, fun | n => n⟩
theorem Tryz.sortFnd : Go.Proofs.SlLaysF0.n6 Tryz.prog Tryz.sortFnd_ren := {
  mixed := by kernel_rfl
  f6 := ⟨Tryz.f51.name, by decide, Tryz.func51.trans (congrArg some (by kernel_rfl))⟩
  f14 := ⟨Tryz.f78.name, by decide, Tryz.func78.trans (congrArg some (by kernel_rfl))⟩
  f15 := Tryz.func79.trans (congrArg some (by kernel_rfl))
  f20 := ⟨Tryz.f113.name, by decide, Tryz.func113.trans (congrArg some (by kernel_rfl))⟩
  f21 := ⟨Tryz.f114.name, by decide, Tryz.func114.trans (congrArg some (by kernel_rfl))⟩
  f22 := ⟨Tryz.f115.name, by decide, Tryz.func115.trans (congrArg some (by kernel_rfl))⟩
  f23 := ⟨Tryz.f116.name, by decide, Tryz.func116.trans (congrArg some (by kernel_rfl))⟩
  f24 := ⟨Tryz.f117.name, by decide, Tryz.func117.trans (congrArg some (by kernel_rfl))⟩
  f25 := ⟨Tryz.f118.name, by decide, Tryz.func118.trans (congrArg some (by kernel_rfl))⟩
  f26 := ⟨Tryz.f119.name, by decide, Tryz.func119.trans (congrArg some (by kernel_rfl))⟩
  f27 := ⟨Tryz.f120.name, by decide, Tryz.func120.trans (congrArg some (by kernel_rfl))⟩
  f28 := Tryz.func121.trans (congrArg some (by kernel_rfl))
  f29 := Tryz.func122.trans (congrArg some (by kernel_rfl))
  f46 := ⟨Tryz.f140.name, by decide, Tryz.func140.trans (congrArg some (by kernel_rfl))⟩
  f47 := Tryz.func141.trans (congrArg some (by kernel_rfl))
  f48 := Tryz.func142.trans (congrArg some (by kernel_rfl))
  f49 := ⟨Tryz.f143.name, by decide, Tryz.func143.trans (congrArg some (by kernel_rfl))⟩
  f50 := ⟨Tryz.f144.name, by decide, Tryz.func144.trans (congrArg some (by kernel_rfl))⟩
  f57 := ⟨Tryz.f162.name, by decide, Tryz.func162.trans (congrArg some (by kernel_rfl))⟩
  t0 := Tryz.underlying0
  a0 := Tryz.isAgg0
  z0 := Tryz.sizeOf0
  v0 := Tryz.zeroValue0
  t3 := Tryz.underlying3
  a3 := Tryz.isAgg3
  z3 := Tryz.sizeOf3
  v3 := Tryz.zeroValue3
  t4 := Tryz.underlying4
  a4 := Tryz.isAgg4
  z4 := Tryz.sizeOf4
  v4 := Tryz.zeroValue4
  t5 := Tryz.underlying5
  a5 := Tryz.isAgg5
  z5 := Tryz.sizeOf5
  v5 := Tryz.zeroValue5
  t9 := Tryz.underlying9
  a9 := Tryz.isAgg9
  z9 := Tryz.sizeOf9
  v9 := Tryz.zeroValue9
  t22 := Tryz.underlying40
  a22 := Tryz.isAgg40
  z22 := Tryz.sizeOf40
  v22 := Tryz.zeroValue40
  t25 := Tryz.underlying98
  a25 := Tryz.isAgg98
  z25 := Tryz.sizeOf98
  v25 := Tryz.zeroValue98
  t39 := Tryz.underlying120
  a39 := Tryz.isAgg120
  z39 := Tryz.sizeOf120
  v39 := Tryz.zeroValue120
  t45 := Tryz.underlying140
  a45 := Tryz.isAgg140
  z45 := Tryz.sizeOf140
  v45 := Tryz.zeroValue140
  t46 := Tryz.underlying141
  a46 := Tryz.isAgg141
  z46 := Tryz.sizeOf141
  v46 := Tryz.zeroValue141
  t50 := Tryz.underlying135
  a50 := Tryz.isAgg135
  z50 := Tryz.sizeOf135
  v50 := Tryz.zeroValue135
  t53 := Tryz.underlying147
  a53 := Tryz.isAgg147
  z53 := Tryz.sizeOf147
  v53 := Tryz.zeroValue147
  t55 := Tryz.underlying32
  a55 := Tryz.isAgg32
  z55 := Tryz.sizeOf32
  v55 := Tryz.zeroValue32
  t66 := Tryz.underlying161
  a66 := Tryz.isAgg161
  z66 := Tryz.sizeOf161
  v66 := Tryz.zeroValue161
  t70 := Tryz.underlying165
  a70 := Tryz.isAgg165
  z70 := Tryz.sizeOf165
  v70 := Tryz.zeroValue165
  t76 := Tryz.underlying175
  a76 := Tryz.isAgg175
  z76 := Tryz.sizeOf175
  v76 := Tryz.zeroValue175
  t77 := Tryz.underlying176
  a77 := Tryz.isAgg176
  z77 := Tryz.sizeOf176
  v77 := Tryz.zeroValue176 }
end Go.Proofs

/-
  Finds sorted by stamp, then by key (stage 7): earlier, and SortFunc at finds.
-/
namespace Go.Proofs.YtmfhbkickaofcaaGreat
open Go.RowKit Go.Lib Go.Sort

def cmpFd (x y : Fd) : Int := Z.orI (Lib.compareInt x.v.stamp y.v.stamp) (Z.cmpI x.a x.b y.a y.b)
/-- Which of two stands ahead. -/
def ltFd (x y : Fnd) : Bool := decide (x.2.stamp < y.2.stamp) || (decide (x.2.stamp = y.2.stamp) && ltKy x.1 y.1)

theorem cmpFd_lt (x y : Fd) : ltOf cmpFd x y = ltFd x.fnd y.fnd := by
  have hk : decide (Z.cmpI x.a x.b y.a y.b < 0) = ltKy (x.a, x.b) (y.a, y.b) := by
    rw [Bool.eq_iff_iff, decide_eq_true_iff]
    exact z_lt (x.a, x.b) (y.a, y.b)
  show decide (cmpFd x y < 0) = (decide (x.v.stamp < y.v.stamp) || (decide (x.v.stamp = y.v.stamp) && ltKy (x.a, x.b) (y.a, y.b)))
  unfold cmpFd Z.orI
  rcases Int.lt_trichotomy x.v.stamp y.v.stamp with h | h | h
  · have hc : Lib.compareInt x.v.stamp y.v.stamp = -1 := by unfold Lib.compareInt; simp [h]
    rw [hc]
    simp [h]
  · have hc : Lib.compareInt x.v.stamp y.v.stamp = 0 := by unfold Lib.compareInt; simp [h]
    rw [hc, if_pos rfl, hk]
    simp [h]
  · have hn : ¬ x.v.stamp < y.v.stamp := by omega
    have hc : Lib.compareInt x.v.stamp y.v.stamp = 1 := by unfold Lib.compareInt; simp [hn, h]
    have hne : x.v.stamp ≠ y.v.stamp := by omega
    rw [hc]
    simp [hn, hne]

theorem ltFd_iff (x y : Fnd) : ltFd x y = true ↔ x.2.stamp < y.2.stamp ∨ (x.2.stamp = y.2.stamp ∧ ltKy x.1 y.1 = true) := by
  unfold ltFd
  simp

theorem swoFd : SWO (ltOf cmpFd) where
  irrefl x := by
    rw [cmpFd_lt]
    cases h : ltFd x.fnd x.fnd with
    | false => rfl
    | true =>
      rcases (ltFd_iff _ _).1 h with h | ⟨_, h⟩
      · omega
      · rw [totK.irr] at h; cases h
  trans x y z h1 h2 := by
    rw [cmpFd_lt, ltFd_iff] at *
    rcases h1 with h1 | ⟨h1, k1⟩
    · rcases h2 with h2 | ⟨h2, _⟩
      · exact Or.inl (by omega)
      · exact Or.inl (by omega)
    · rcases h2 with h2 | ⟨h2, k2⟩
      · exact Or.inl (by omega)
      · exact Or.inr ⟨by omega, totK.tr _ _ _ k1 k2⟩
  ntrans x y z h1 h2 := by
    rw [cmpFd_lt] at *
    cases h : ltFd x.fnd z.fnd with
    | false => rfl
    | true =>
      have n1 : ¬ ltFd x.fnd y.fnd = true := by rw [h1]; simp
      have n2 : ¬ ltFd y.fnd z.fnd = true := by rw [h2]; simp
      rw [ltFd_iff] at n1 n2
      rcases (ltFd_iff _ _).1 h with h | ⟨h, k⟩
      · rcases Int.lt_or_le x.fnd.2.stamp y.fnd.2.stamp with a | a
        · exact absurd (Or.inl a) n1
        · exact absurd (Or.inl (by omega)) n2
      · have e1 : x.fnd.2.stamp = y.fnd.2.stamp := by
          rcases Int.lt_trichotomy x.fnd.2.stamp y.fnd.2.stamp with a | a | a
          · exact absurd (Or.inl a) n1
          · exact a
          · exact absurd (Or.inl (by omega)) n2
        have e2 : y.fnd.2.stamp = z.fnd.2.stamp := by omega
        rcases totK.tot y.fnd.1 x.fnd.1 with a | a | a
        · exact absurd (Or.inr ⟨e2, totK.tr _ _ _ a k⟩) n2
        · exact absurd (Or.inr ⟨e2, by rw [a]; exact k⟩) n2
        · exact absurd (Or.inr ⟨e1, a⟩) n1

/-! ## earlier -/

theorem nan_u64 (a : Int) (w : World) : Calls Tryz.prog 123 #[.int .u64 a] w fun e w' => e = .returned (.bool false) ∧ w' = w := by
  go_enter Tryz.func123, Tryz.ntmps123
  go_wp2_with fail
  go_ret
  exact ⟨by simp, rfl⟩

theorem cmp_u64 (a b : Int) (w : World) : Calls Tryz.prog 81 #[.int .u64 a, .int .u64 b] w fun e w' => e = .returned (.int .i64 (Lib.compareInt a b)) ∧ w' = w := by
  have HN := hid nan_u64
  rcases Int.lt_trichotomy a b with h | h | h
  · have hc : Lib.compareInt a b = -1 := by unfold Lib.compareInt; simp [h]
    rw [hc]
    go_enter Tryz.func81, Tryz.ntmps81
    go_wp2_with (first | (go_at_call 123; refine (HN.out _ _).mono ?_; rintro e w1 ⟨rfl, rfl⟩))
    go_ret
    exact ⟨rfl, rfl⟩
  · have hc : Lib.compareInt a b = 0 := by unfold Lib.compareInt; simp [h]
    rw [hc]
    subst h
    have hn : ¬ a < a := by omega
    go_enter Tryz.func81, Tryz.ntmps81
    go_wp2_with (first | (go_at_call 123; refine (HN.out _ _).mono ?_; rintro e w1 ⟨rfl, rfl⟩))
    go_ret
    exact ⟨rfl, rfl⟩
  · have hn : ¬ a < b := by omega
    have hc : Lib.compareInt a b = 1 := by unfold Lib.compareInt; simp [hn, h]
    rw [hc]
    go_enter Tryz.func81, Tryz.ntmps81
    go_wp2_with (first | (go_at_call 123; refine (HN.out _ _).mono ?_; rintro e w1 ⟨rfl, rfl⟩))
    go_ret
    exact ⟨rfl, rfl⟩

set_option maxHeartbeats 4000000 in
set_option maxRecDepth 100000 in
theorem earlier_any (x y : Fd) (w : World) : Calls Tryz.prog 52 #[.agg (encFd x).toArray, .agg (encFd y).toArray] w fun e w' => e = .returned (.int .i64 (cmpFd x y)) ∧ Grown w w' := by
  obtain ⟨p1, hp1⟩ : ∃ p, Lib.compareInt x.v.stamp y.v.stamp = p := ⟨_, rfl⟩
  obtain ⟨p2, hp2⟩ : ∃ p, Z.cmpI x.a x.b y.a y.b = p := ⟨_, rfl⟩
  have HC : Hid (cmpFd x y = Z.orI p1 p2) := by show _ = _; rw [← hp1, ← hp2]; rfl
  have H1 : Hid (∀ w, Calls Tryz.prog 81 #[.int .u64 x.v.stamp, .int .u64 y.v.stamp] w fun e w' => e = .returned (.int .i64 p1) ∧ w' = w) := fun w => by rw [← hp1]; exact cmp_u64 _ _ _
  have H2 : Hid (∀ w, Calls Tryz.prog 82 #[.agg #[.string x.a, .string x.b], .agg #[.string y.a, .string y.b]] w fun e w' => e = .returned (.int .i64 p2) ∧ Grown w w') := fun w => by
    rw [← hp2]
    exact (Z.compare_eq x.a x.b y.a y.b w).mono fun e w' ⟨h1, h2⟩ => ⟨h1, by rw [h2]; exact ((((Grown.refl _).alloc _).alloc _).alloc _).drewN 1⟩
  clear hp1 hp2
  obtain ⟨xa, xb, xn, xs, xt, xl, xp, xc, xo⟩ := x
  obtain ⟨ya, yb, yn, ys, yt, yl, yp, yc, yo⟩ := y
  simp only [encFd, encVx, Vx.sl] at *
  obtain ⟨W, hW⟩ : ∃ W, (w.alloc (.cells #[.string xa, .string xb, .int .i64 xn, .int .u64 xs, .int .i64 xt, .bool xl, .slice xp xo.length xc] 63)).alloc (.cells #[.string ya, .string yb, .int .i64 yn, .int .u64 ys, .int .i64 yt, .bool yl, .slice yp yo.length yc] 63) = W := ⟨_, rfl⟩
  obtain ⟨N, hN⟩ : ∃ N, w.heap.size = N := ⟨_, rfl⟩
  have hs : W.heap.size = N + 2 := by rw [← hW, ← hN]; simp
  have hh0 : W.heap[N]? = some (.cells #[.string xa, .string xb, .int .i64 xn, .int .u64 xs, .int .i64 xt, .bool xl, .slice xp xo.length xc] 63 (0, 0)) := by
    rw [← hW, ← hN]; exact (Below.heap_alloc _ _ _ (by simp)).trans (heap_alloc_new w _)
  have hh1 : W.heap[N + 1]? = some (.cells #[.string ya, .string yb, .int .i64 yn, .int .u64 ys, .int .i64 yt, .bool yl, .slice yp yo.length yc] 63 (0, 0)) := by
    rw [← hW, ← hN]; have := heap_alloc_new (w.alloc (.cells #[.string xa, .string xb, .int .i64 xn, .int .u64 xs, .int .i64 xt, .bool xl, .slice xp xo.length xc] 63)) (.cells #[.string ya, .string yb, .int .i64 yn, .int .u64 ys, .int .i64 yt, .bool yl, .slice yp yo.length yc] 63); rwa [World.size_alloc] at this
  have HG : Hid (Grown w W.drew) := by rw [← hW]; exact (((Grown.refl _).alloc _).alloc _).drewN 1
  have KS : Hid (∀ w' : World, Grown W.drew w' → (w'.cell? ⟨N, 0, none⟩ = some (.string xa) ∧ w'.cell? ⟨N, 1, none⟩ = some (.string xb) ∧ w'.cell? ⟨N, 3, none⟩ = some (.int .u64 xs)) ∧ w'.cell? ⟨N + 1, 0, none⟩ = some (.string ya) ∧ w'.cell? ⟨N + 1, 1, none⟩ = some (.string yb) ∧ w'.cell? ⟨N + 1, 3, none⟩ = some (.int .u64 ys)) := fun w' hg => by
    have h0 := (hg.below.block N (show N < W.heap.size by omega)).trans hh0
    have h1 := (hg.below.block (N + 1) (show N + 1 < W.heap.size by omega)).trans hh1
    rw [Lib.cell_of_heap h0, Lib.cell_of_heap h0, Lib.cell_of_heap h0, Lib.cell_of_heap h1, Lib.cell_of_heap h1, Lib.cell_of_heap h1]
    exact ⟨⟨rfl, rfl, rfl⟩, rfl, rfl, rfl⟩
  have q0 := KS.out W.drew (Grown.refl _)
  clear hh0 hh1 hs
  go_enter Tryz.func52, Tryz.ntmps52
  go_wp2_with fail
  try rw [hN]
  try rw [hW]
  clear hW hN
  refine wp_region_held_drew (S := fun w' => (w'.cell? ⟨N, 0, none⟩ = some (.string xa) ∧ w'.cell? ⟨N, 1, none⟩ = some (.string xb) ∧ w'.cell? ⟨N, 3, none⟩ = some (.int .u64 xs)) ∧ w'.cell? ⟨N + 1, 0, none⟩ = some (.string ya) ∧ w'.cell? ⟨N + 1, 1, none⟩ = some (.string yb) ∧ w'.cell? ⟨N + 1, 3, none⟩ = some (.int .u64 ys)) (by kernel_rfl) q0 (fun hHeld => ?_)
  refine take_val (i := 0) (.pointer (some ⟨N, 2, none⟩)) rfl (by kernel_rfl) (by kernel_rfl) (by kernel_rfl) (fun _ _ _ h => h) (by rfl) (fun w hSw => by go_simp) hHeld ?_
  simp only [Act.put, List.setIfInBounds_toArray, List.set_cons_zero, List.set_cons_succ]
  refine take_val (i := 1) (.pointer (some ⟨N, 3, none⟩)) rfl (by kernel_rfl) (by kernel_rfl) (by kernel_rfl) (fun _ _ _ h => h) (by rfl) (fun w hSw => by go_simp) hHeld ?_
  simp only [Act.put, List.setIfInBounds_toArray, List.set_cons_zero, List.set_cons_succ]
  refine take_val (i := 2) (.int .u64 xs) rfl (by kernel_rfl) (by kernel_rfl) (by kernel_rfl) (fun _ _ _ h => h) (by rfl) (fun w hSw => by go_simp) hHeld ?_
  simp only [Act.put, List.setIfInBounds_toArray, List.set_cons_zero, List.set_cons_succ]
  refine take_val (i := 3) (.pointer (some ⟨N + 1, 2, none⟩)) rfl (by kernel_rfl) (by kernel_rfl) (by kernel_rfl) (fun _ _ _ h => h) (by rfl) (fun w hSw => by go_simp) hHeld ?_
  simp only [Act.put, List.setIfInBounds_toArray, List.set_cons_zero, List.set_cons_succ]
  refine take_val (i := 4) (.pointer (some ⟨N + 1, 3, none⟩)) rfl (by kernel_rfl) (by kernel_rfl) (by kernel_rfl) (fun _ _ _ h => h) (by rfl) (fun w hSw => by go_simp) hHeld ?_
  simp only [Act.put, List.setIfInBounds_toArray, List.set_cons_zero, List.set_cons_succ]
  refine take_val (i := 5) (.int .u64 ys) rfl (by kernel_rfl) (by kernel_rfl) (by kernel_rfl) (fun _ _ _ h => h) (by rfl) (fun w hSw => by go_simp) hHeld ?_
  simp only [Act.put, List.setIfInBounds_toArray, List.set_cons_zero, List.set_cons_succ]
  refine take_val (i := 7) (.pointer (some ⟨N, 0, none⟩)) rfl (by kernel_rfl) (by kernel_rfl) (by kernel_rfl) (fun _ _ _ h => h) (by rfl) (fun w hSw => by go_simp) hHeld ?_
  simp only [Act.put, List.setIfInBounds_toArray, List.set_cons_zero, List.set_cons_succ]
  refine take_val (i := 8) (.agg #[.string xa, .string xb]) rfl (by kernel_rfl) (by kernel_rfl) (by kernel_rfl) (fun _ _ _ h => h) (by rfl) (fun w hSw => by go_simp) hHeld ?_
  simp only [Act.put, List.setIfInBounds_toArray, List.set_cons_zero, List.set_cons_succ]
  refine take_val (i := 9) (.pointer (some ⟨N + 1, 0, none⟩)) rfl (by kernel_rfl) (by kernel_rfl) (by kernel_rfl) (fun _ _ _ h => h) (by rfl) (fun w hSw => by go_simp) hHeld ?_
  simp only [Act.put, List.setIfInBounds_toArray, List.set_cons_zero, List.set_cons_succ]
  refine take_val (i := 10) (.agg #[.string ya, .string yb]) rfl (by kernel_rfl) (by kernel_rfl) (by kernel_rfl) (fun _ _ _ h => h) (by rfl) (fun w hSw => by go_simp) hHeld ?_
  simp only [Act.put, List.setIfInBounds_toArray, List.set_cons_zero, List.set_cons_succ]
  refine wpAnyH_ready (rs := [6]) (by kernel_rfl) (by simp) ?_
  refine AllReadyH.cons (at_drop0 rfl) (fun K hK => ?_) AllReadyH.nil
  rw [if_pos (by rfl)]
  go_simp
  refine (H1.out _).mono ?_
  rintro e w5 ⟨rfl, rfl⟩
  go_wp2_with fail
  refine hK.out _ _ q0 (fun hHeld => ?_)
  clear hK K
  try simp only [Act.put, List.setIfInBounds_toArray, List.set_cons_zero, List.set_cons_succ]
  refine wpAnyH_ready (rs := [11]) (by kernel_rfl) (by simp) ?_
  refine AllReadyH.cons (at_drop0 rfl) (fun K hK => ?_) AllReadyH.nil
  rw [if_pos (by rfl)]
  go_simp
  refine (H2.out _).mono ?_
  rintro e w6 ⟨rfl, hg6⟩
  have q6 := KS.out w6 hg6
  have q7 := KS.out (w6.alloc (.cells #[.int .i64 p1, .int .i64 p2] 3)) (hg6.alloc _)
  have HOR := hid (Z.zor_any p1 p2 w6.heap.size (w6.alloc (.cells #[.int .i64 p1, .int .i64 p2] 3)) (by rw [Lib.cell_of_heap (heap_alloc_new w6 _)]; rfl) (by rw [Lib.cell_of_heap (heap_alloc_new w6 _)]; rfl))
  have HG6 := hid (hg6.alloc (.cells #[.int .i64 p1, .int .i64 p2] 3))
  clear hg6
  go_wp2_with fail
  refine hK.out _ _ q6 (fun hHeld => ?_)
  clear hK K
  try simp only [Act.put, List.setIfInBounds_toArray, List.set_cons_zero, List.set_cons_succ]
  refine wpAnyH_ready (rs := [12]) (by kernel_rfl) (by simp) ?_
  refine AllReadyH.cons (at_drop0 rfl) (fun K hK => ?_) AllReadyH.nil
  rw [if_pos (by rfl)]
  go_simp
  refine hK.out _ _ q7 (fun hHeld => ?_)
  clear hK K
  try simp only [Act.put, List.setIfInBounds_toArray, List.set_cons_zero, List.set_cons_succ]
  refine wpAnyH_ready (rs := [13]) (by kernel_rfl) (by simp) ?_
  refine AllReadyH.cons (at_drop0 rfl) (fun K hK => ?_) AllReadyH.nil
  rw [if_pos (by rfl)]
  go_simp
  refine HOR.out.mono ?_
  rintro e w7 ⟨rfl, rfl⟩
  go_wp2_with fail
  refine hK.out _ _ q7 (fun hHeld => ?_)
  clear hK K
  try simp only [Act.put, List.setIfInBounds_toArray, List.set_cons_zero, List.set_cons_succ]
  refine take_val (i := 14) (.int .i64 (Z.orI p1 p2)) rfl (by kernel_rfl) (by kernel_rfl) (by kernel_rfl) (fun _ _ _ h => h) (by rfl) (fun w hSw => by go_simp) hHeld ?_
  simp only [Act.put, List.setIfInBounds_toArray, List.set_cons_zero, List.set_cons_succ]
  refine wpAnyH_done (by kernel_rfl) ?_ _
  go_wp2_with fail
  go_ret
  exact ⟨ret_int HC.out.symm, HG.out.trans HG6.out⟩

theorem cmpLaysFd (blk off size : Nat) (w : World) : CmpLays Tryz.prog 52 #[] encFd 7 cmpFd blk off size w :=
  fun _ _ _ _ x y => earlier_any x y _

theorem enters_earlier : ∀ args w, (callFunc 52 args).run Tryz.prog w = .ok (.enter 52 args) w := enters_of Tryz.func52 (by kernel_rfl) rfl

theorem sortfd_any (blk off cap : Nat) (d : Array Fd) (w : World) (hH : HoldsK encFd 7 w blk off d) (hblk : blk < w.heap.size) (hsz : d.size < 4611686018427387904) :
    Calls Tryz.prog 51 #[.slice (some ⟨blk, off, none⟩) d.size cap, .func (.func 52) #[] #[]] w fun e w' =>
      e = .returned (.tuple #[]) ∧ ∃ d' n os, PermIn 0 d.size d d' ∧ SortedIn (ltOf cmpFd) 0 d.size d' ∧ w' = sortWorldK encFd 7 w blk off n d' os :=
  AnyQ.slices_SortFunc Tryz.sortFnd 7 Tryz.isAgg63 Tryz.sizeOf63 encFd (fun _ => rfl) KFd.one cmpFd swoFd 52 #[] blk off cap d w enters_earlier (cmpLaysFd blk off d.size w) hH hblk hsz

theorem sortfd_nil (W : World) : Calls Tryz.prog 51 #[.slice none 0 0, .func (.func 52) #[] #[]] W fun e w' => e = .returned (.tuple #[]) ∧ w' = W := by
  have hi : ∀ W, Calls Tryz.prog 113 #[.slice none 0 0, .int .i64 0, .int .i64 0, .func (.func 52) #[] #[]] W fun e w' => e = .returned (.tuple #[]) ∧ w' = W := fun W => by
    go_enter Tryz.func113, Tryz.ntmps113
    go_wp2_with fail
    refine wp_loop_rounds 1 ?_
    rw [rounds_succ]
    go_wp2_with fail
    go_end0
    exact ⟨rfl, rfl⟩
  have HI := hid hi
  clear hi
  have hp : ∀ (l : Int) W, Calls Tryz.prog 78 #[.slice none 0 0, .int .i64 0, .int .i64 0, .int .i64 l, .func (.func 52) #[] #[]] W fun e w' => e = .returned (.tuple #[]) ∧ w' = W := fun l W => by
    go_enter Tryz.func78, Tryz.ntmps78
    go_wp2_with fail
    refine wp_loop_rounds 1 ?_
    rw [rounds_succ]
    go_wp2_with (first | (go_at_call 113; refine (HI.out _).mono ?_; rintro e w1 ⟨rfl, rfl⟩))
    refine bodyPost_ret (results_none (h := Tryz.results78) _ _ _) rfl ?_
    exact ⟨rfl, rfl⟩
  have HP := hid hp
  clear hp
  go_enter Tryz.func51, Tryz.ntmps51
  go_wp2_with (first | (go_at_call 79; refine (Tryz.bits_Len 0 _ (by omega) (by omega)).mono ?_; rintro e w1 ⟨rfl, rfl⟩) | (go_at_call 78; refine (HP.out _ _).mono ?_; rintro e w1 ⟨rfl, rfl⟩))
  go_end0
  exact ⟨rfl, rfl⟩

/-- Sorted by stamp, then by key. -/
def SortN (l : List Fnd) : Prop := l.Pairwise fun a b => ltFd b a = false

/-- A row of finds, sorted in place. -/
theorem sortrowF_any {B : Nat} {w : World} {u : Value} {fs : List Fd} (h : KFd.Own B w u fs) (hl : fs.length ≤ 2400000000000) (hB : B ≤ w.heap.size) :
    Calls Tryz.prog 51 #[u, .func (.func 52) #[] #[]] w fun e w' => e = .returned (.tuple #[]) ∧ ∃ l : List Fd, KFd.Own B w' u l ∧ l.Perm fs ∧ SortN (l.map Fd.fnd) ∧ Fr (fun b => u.ownBlock = some b) w w' := by
  rcases h.2 with ⟨rfl, hz⟩ | ⟨g, cap, cur, rfl, _⟩
  · obtain rfl := List.length_eq_zero_iff.1 hz
    refine (sortfd_nil w).mono ?_
    rintro e w' ⟨rfl, rfl⟩
    exact ⟨rfl, [], h, List.Perm.refl _, List.Pairwise.nil, Fr.refl _ _⟩
  · have hge := Kind.own_ge h
    have hH : HoldsK encFd 7 w g 0 fs.toArray := Kind.own_holds h
    have := sortfd_any g 0 cap fs.toArray w hH hge.2.1 (by simp; omega)
    simp only [List.size_toArray] at this
    refine this.mono ?_
    rintro e w' ⟨rfl, d', n, os, hp, hs, rfl⟩
    obtain ⟨h1, _, h3⟩ := hp
    have hsz : d'.size = fs.length := by simpa using h1
    have hperm : d'.toList.Perm fs := by
      have e1 : (d'.extract 0 fs.length).toList = d'.toList := by rw [← hsz]; simp
      have e2 : (fs.toArray.extract 0 fs.length).toList = fs := by simp
      rw [e1, e2] at h3
      exact h3
    refine ⟨rfl, d'.toList, Kind.own_sorted h d' hsz n os, hperm, ?_, ?_⟩
    · refine List.pairwise_map.2 (List.pairwise_iff_getElem.2 fun i j hi hj hij => ?_)
      have hi' : i < d'.size := by simpa using hi
      have hj' : j < d'.size := by simpa using hj
      have := hs i j (Nat.zero_le _) hij (by omega)
      rw [getElem!_pos d' i hi', getElem!_pos d' j hj', cmpFd_lt] at this
      simpa using this
    · have hb := below_sortK encFd 7 (B := g) (Below.refl _ w) (by have := hge.2.1; omega) g 0 n d' os (Nat.le_refl _)
      refine ⟨hb.os, hb.tape, hb.output, hb.size, fun k hk hn => ?_⟩
      have hkg : k ≠ g := fun e => hn (by rw [e]; rfl)
      simp only [sortWorldK, Sort.grow, putRowK, putRow, mapBlock, Sort.ahead]
      rw [Array.getElem?_append_left (by simpa using hk), Array.getElem?_modify, if_neg (fun e => hkg e.symm)]

end Go.Proofs.YtmfhbkickaofcaaGreat

/-
  Log of a directory (stage 7).
-/
namespace Go.Proofs.YtmfhbkickaofcaaGreat
open Go.RowKit

/-- The versions above t of some keys. -/
def sinceL (D : List RowD) (t : Int) (ks : List Ky) : List Fnd := ks.flatMap fun k => (sinceV (ofD D k) t).map fun v => (k, v)

theorem sinceL_snoc (D : List RowD) (t : Int) (ks : List Ky) (k : Ky) : sinceL D t (ks ++ [k]) = sinceL D t ks ++ (sinceV (ofD D k) t).map fun v => (k, v) := by
  unfold sinceL
  rw [List.flatMap_append]
  simp

theorem sinceL_take (D : List RowD) (t : Int) (ks : List Ky) (i : Nat) : (sinceL D t (ks.take i)).length ≤ (sinceL D t ks).length := by
  have : sinceL D t ks = sinceL D t (ks.take i) ++ sinceL D t (ks.drop i) := by
    unfold sinceL
    rw [← List.flatMap_append, List.take_append_drop]
  rw [this, List.length_append]
  omega

theorem sinceL_len {D : List RowD} (h : OkD D) (t : Int) {ks : List Ky} (hn : ks.Nodup) (hk : ∀ k ∈ ks, ofD D k ≠ []) : (sinceL D t ks).length ≤ countD D := by
  have h1 : (sinceL D t ks).length ≤ (ks.map fun k => (ofD D k).length).sum := by
    unfold sinceL
    clear hn hk
    induction ks with
    | nil => simp
    | cons k ks ih =>
      rw [List.flatMap_cons, List.length_append, List.length_map, List.map_cons, List.sum_cons]
      have : (sinceV (ofD D k) t).length ≤ (ofD D k).length := by unfold sinceV; rw [List.length_drop]; omega
      omega
  exact Nat.le_trans h1 (seen_some h List.length hn hk)

theorem sinceL_keys {D : List RowD} (h : OkD D) (t : Int) (typ : ByteArray) : sinceL D t (keysD D typ) = sinceD D typ t := by
  have hof : ∀ r ∈ D, ofD D r.1 = r.2 := fun r hr => ofD_mem h hr
  unfold sinceL keysD sinceD
  generalize ofD D = F at hof
  clear h
  induction D with
  | nil => rfl
  | cons r d ih =>
    have ih' := ih fun x hx => hof x (List.mem_cons_of_mem _ hx)
    rw [List.map_cons, List.filter_cons, List.filter_cons]
    split
    · rw [List.flatMap_cons, List.flatMap_cons, ih', hof r List.mem_cons_self]
    · exact ih'

/-- What Log answers: the versions above t, by stamp, then by key. -/
def LogPost (W : World) (D : List RowD) (typ : ByteArray) (t : Int) (e : Ending) (w' : World) : Prop := ∃ r, FdPost W r e w' ∧ r.Perm (sinceD D typ t) ∧ SortN r

theorem since_one {D : List RowD} (h : OkD D) {typ : ByteArray} {t : Int} {a b : Fnd} (ha : a ∈ sinceD D typ t) (hb : b ∈ sinceD D typ t) (hk : a.1 = b.1) (hs : a.2.stamp = b.2.stamp) : a = b := by
  have hm : ∀ {x : Fnd}, x ∈ sinceD D typ t → x.2 ∈ ofD D x.1 := fun {x} hx => by
    unfold sinceD at hx
    obtain ⟨r, hr, hx⟩ := List.mem_flatMap.1 hx
    obtain ⟨v, hv, rfl⟩ := List.mem_map.1 hx
    rw [ofD_mem h (List.mem_filter.1 hr).1]
    exact since_mem hv
  have h1 := hm ha
  have h2 := hm hb
  rw [← hk] at h2
  have hr := (ofD_ok h a.1).rise
  obtain ⟨i, hi, e1⟩ := List.mem_iff_getElem.1 h1
  obtain ⟨j, hj, e2⟩ := List.mem_iff_getElem.1 h2
  have hij : i = j := by
    rcases Nat.lt_trichotomy i j with hlt | he | hlt
    · have := rise_lt hr hlt hj
      rw [e1, e2] at this
      omega
    · exact he
    · have := rise_lt hr hlt hi
      rw [e1, e2] at this
      omega
  subst hij
  exact Prod.ext hk (e1.symm.trans e2)

theorem log_uniq {D : List RowD} (h : OkD D) {typ : ByteArray} {t : Int} {r s : List Fnd} (hr : r.Perm (sinceD D typ t)) (hs : s.Perm (sinceD D typ t)) (h1 : SortN r) (h2 : SortN s) : r = s := by
  have hp := hr.trans hs.symm
  refine List.Perm.eq_of_pairwise (le := fun a b => ltFd b a = false) (fun a b ha hb hab hba => ?_) h1 h2 hp
  have ha' := hr.mem_iff.1 ha
  have hb' := hs.mem_iff.1 hb
  have n1 : ¬ ltFd b a = true := by rw [hab]; simp
  have n2 : ¬ ltFd a b = true := by rw [hba]; simp
  rw [ltFd_iff] at n1 n2
  have e1 : a.2.stamp = b.2.stamp := by
    rcases Int.lt_trichotomy a.2.stamp b.2.stamp with q | q | q
    · exact absurd (Or.inl q) n2
    · exact q
    · exact absurd (Or.inl q) n1
  rcases totK.tot a.1 b.1 with q | q | q
  · exact absurd (Or.inr ⟨e1, q⟩) n2
  · exact since_one h ha' hb' q e1
  · exact absurd (Or.inr ⟨e1.symm, q⟩) n1

/-! ## Memory -/

theorem own_beside {α : Type} {K : Kind α} {N M : Nat} {w w' : World} {v u : Value} {d : List α} {fs : List Fd} (h : K.Own N w v d) (h2 : KFd.Own M w u fs) (hg : w.grownBy w' u.ownBlock) (hT : K.T ≠ 63) : K.Own N w' v d :=
  (fr_row hg).row h fun k hk e => by
    obtain ⟨c1, h3⟩ := own_type h hk
    obtain ⟨c2, h4⟩ := own_type h2 e
    rw [h3] at h4
    injection h4 with h4
    injection h4 with _ h4 _
    exact hT h4

theorem ownJ_beside {N M : Nat} {w w' : World} {s u : Value} {o : List Fx} {fs : List Fd} (h : OwnJ N w s o) (h2 : KFd.Own M w u fs) (hg : w.grownBy w' u.ownBlock) : OwnJ N w' s o :=
  ownJ_fr h (fr_row hg) fun k hk e => by
    obtain ⟨c1, t1, h3, h5⟩ := ownJ_cells h hk
    obtain ⟨c2, h4⟩ := own_type h2 e
    rw [h3] at h4
    injection h4 with h4
    injection h4 with _ h4 _
    rcases h5 with h5 | h5
    · exact absurd (h5.symm.trans h4) (by decide)
    · exact absurd (h5.symm.trans h4) (by decide)

/-- Between two rounds of the loop over keys. -/
structure LgIn (W : World) (N : Nat) (vk : Value) (keys : List Ky) (fs : List Fd) (acc : List Fnd) (v : Value) (wr : World) : Prop where
  own : KFd.Own N wr v fs
  val : ∀ f ∈ fs, OwnJ N wr f.v.sl f.v.o ∧ mayB (f.v.o.map Fx.fld) = true
  eq : fs.map Fd.fnd = acc
  key : KK.Own N wr vk keys
  bel : Below N W wr

theorem LgIn.on {W : World} {N : Nat} {vk : Value} {keys : List Ky} {fs : List Fd} {acc : List Fnd} {v : Value} {wr W' : World} (h : LgIn W N vk keys fs acc v wr) (hs : N ≤ wr.heap.size) (hb : Below wr.heap.size wr W') : LgIn W N vk keys fs acc v W' :=
  ⟨Kind.own_on h.own hb, fun f hf => ⟨(h.val f hf).1.on hb, (h.val f hf).2⟩, h.eq, Kind.own_on h.key hb, bel_then h.bel hs hb⟩

theorem LgIn.len {W : World} {N : Nat} {vk : Value} {keys : List Ky} {fs : List Fd} {acc : List Fnd} {v : Value} {wr : World} (h : LgIn W N vk keys fs acc v wr) : fs.length = acc.length := by
  have := congrArg List.length h.eq
  simpa using this

/-- Between two rounds of the loop over a key's versions. -/
structure LgJ (W : World) (N : Nat) (vk : Value) (keys : List Ky) (Kb : Nat) (k : Ky) (u : Value) (o : List Vx) (fs : List Fd) (acc : List Fnd) (v : Value) (wr : World) : Prop where
  lg : LgIn W N vk keys fs acc v wr
  box : wr.heap[Kb]? = some (.cells #[.string k.1, .string k.2] 31 (0, 0))
  row : KV.Own N wr u o
  each : ∀ x ∈ o, OwnJ N wr x.sl x.o ∧ mayB (x.o.map Fx.fld) = true

theorem LgJ.on {W : World} {N : Nat} {vk : Value} {keys : List Ky} {Kb : Nat} {k : Ky} {u : Value} {o : List Vx} {fs : List Fd} {acc : List Fnd} {v : Value} {wr W' : World} (h : LgJ W N vk keys Kb k u o fs acc v wr) (hs : N ≤ wr.heap.size) (hb : Below wr.heap.size wr W') : LgJ W N vk keys Kb k u o fs acc v W' :=
  ⟨h.lg.on hs hb, (hb.block Kb (Array.getElem?_eq_some_iff.1 h.box).1).trans h.box, Kind.own_on h.row hb, fun x hx => ⟨(h.each x hx).1.on hb, (h.each x hx).2⟩⟩

theorem LgJ.push {W : World} {N : Nat} {vk : Value} {keys : List Ky} {Kb : Nat} {k : Ky} {u : Value} {o : List Vx} {fs : List Fd} {acc : List Fnd} {v v' : Value} {wr w1 : World} (h : LgJ W N vk keys Kb k u o fs acc v wr) (hs : N ≤ wr.heap.size) (hg : wr.grownBy w1 v.ownBlock) {x : Vx} (hx : x ∈ o)
    (ho : KFd.Own N w1 v' (fs ++ [⟨k.1, k.2, x⟩])) : LgJ W N vk keys Kb k u o (fs ++ [⟨k.1, k.2, x⟩]) (acc ++ [(k, x.ver)]) v' w1 := by
  have hbox : w1.heap[Kb]? = wr.heap[Kb]? := hg.block Kb (Array.getElem?_eq_some_iff.1 h.box).1 fun e => by
    obtain ⟨c, hc⟩ := own_type h.lg.own e.symm
    rw [h.box] at hc
    injection hc with hc
    injection hc with _ hc _
    exact absurd hc (by decide)
  refine ⟨⟨ho, fun f hf => ?_, by rw [List.map_append, h.lg.eq]; rfl, own_beside h.lg.key h.lg.own hg (by decide), h.lg.bel.trans ((fr_row hg).below hs fun b hb => (World.ownsRow.lt h.lg.own b hb).1)⟩, hbox.trans h.box, own_beside h.row h.lg.own hg (by decide), fun y hy => ⟨ownJ_beside (h.each y hy).1 h.lg.own hg, (h.each y hy).2⟩⟩
  rcases List.mem_append.1 hf with hf | hf
  · exact ⟨ownJ_beside (h.lg.val f hf).1 h.lg.own hg, (h.lg.val f hf).2⟩
  · rw [List.mem_singleton] at hf
    subst hf
    exact ⟨ownJ_beside (h.each x hx).1 h.lg.own hg, (h.each x hx).2⟩

end Go.Proofs.YtmfhbkickaofcaaGreat

/-
  Log of a directory (stage 7): its walk.
-/
namespace Go.Proofs.YtmfhbkickaofcaaGreat
open Go.RowKit

theorem keysD_there {D : List RowD} (h : OkD D) {typ : ByteArray} {k : Ky} (hk : k ∈ keysD D typ) : ofD D k ≠ [] := (there_iff h k).1 (List.mem_filter.1 hk).1
theorem keysD_nodup {D : List RowD} (h : OkD D) (typ : ByteArray) : (keysD D typ).Nodup := rise_nodup (h.rise.sublist List.filter_sublist)

set_option maxHeartbeats 8000000 in
set_option maxRecDepth 100000 in
theorem dlog_any {n0 : Nat} {W : World} {g m n : Nat} {G : Ky → Cm} {D : List RowD} (h : DirM n0 W g m n G D) (hn : n ≤ 1200000000000) (typ : ByteArray) (t : Int) :
    Calls Tryz.prog 20 #[.pointer (some ⟨g, 0, none⟩), .string typ, .int .u64 t] W fun e w' => LogPost W D typ t e w' := by
  obtain ⟨N, hN⟩ : ∃ N, W.heap.size = N := ⟨_, rfl⟩
  obtain ⟨i0, hi0, hz0, hz1, hz2⟩ := info_parts Tryz.infoFd
  have HI := hid hi0
  have HKE := hid (dkeys_any h (by omega) typ)
  have HH := hid h
  have HFIT := hid (keysD_fit h (ks := keysD D typ) fun k hk => (List.mem_filter.1 hk).1)
  have hsl := sinceL_len h.ok t (keysD_nodup h.ok typ) fun k hk => keysD_there h.ok hk
  have hfew := h.few
  have HEQ := hid (sinceL_keys h.ok t typ)
  have HMAY : Hid (∀ k v, v ∈ ofD D k → mayB v.val = true) := fun k v hv => by
    have hne : ofD D k ≠ [] := by intro e; rw [e] at hv; simp at hv
    obtain ⟨h1, h2⟩ := HH.out.prg k hne
    rw [← h2] at hv
    obtain ⟨x, hx, rfl⟩ := List.mem_map.1 hv
    exact (h1.each x hx).2
  obtain ⟨keys, hkeys⟩ : ∃ keys, keysD D typ = keys := ⟨_, rfl⟩
  rw [hkeys] at HKE HFIT hsl HEQ
  obtain ⟨TL, hTL⟩ : ∃ TL, (sinceL D t keys).length = TL := ⟨_, rfl⟩
  have HTL : Hid (∀ i, (sinceL D t (keys.take i)).length ≤ TL) := fun i => by rw [← hTL]; exact sinceL_take D t keys i
  rw [hTL] at hsl
  have htl : TL ≤ 1200000000000 := by omega
  have hkl : keys.length ≤ 2400000000000 := by
    have := keysD_len h.ok typ
    rw [hkeys] at this
    omega
  clear h hi0 hkeys hTL hsl hfew
  go_enter Tryz.func20, Tryz.ntmps20
  go_wp2_with fail
  refine HKE.out.mono ?_
  rintro e w3 ⟨u, rfl, ho3, hb3⟩
  rw [hN] at ho3 hb3
  obtain ⟨kp, kc, rfl⟩ := Kind.own_shape ho3
  have ST0 : Hid (LgIn W N (.slice kp keys.length kc) keys [] [] (.slice none 0 0) w3) := ⟨KFd.own_nil _ _, fun f hf => by simp at hf, rfl, ho3, hb3⟩
  clear ho3 hb3 HKE
  go_wp2_with fail
  go_loopg [7, 16] keys.length (fun gg vf vi wr => ∃ (i : Nat) (fs : List Fd), vi = .int .i64 i ∧ i ≤ keys.length ∧ keys.length - i ≤ gg ∧ Hid (LgIn W N (.slice kp keys.length kc) keys fs (sinceL D t (keys.take i)) vf wr))
  case atStart => exact ⟨0, [], rfl, by omega, by omega, ST0.out⟩
  case round =>
    clear ST0
    obtain ⟨i, fs, rfl, hi, hgk, HL⟩ := hrel
    have hsN : N ≤ wr.heap.size := by have := HL.out.bel.size; omega
    obtain ⟨fp, fc, rfl⟩ := Kind.own_shape HL.out.own
    by_cases hlt : i < keys.length
    · have hltz : (i : Int) < (keys.length : Int) := by omega
      have hiz : (0 : Int) ≤ i := by omega
      obtain ⟨kb, ko, rfl, hrow⟩ : ∃ b off, kp = some ⟨b, off, none⟩ ∧ KK.At wr b off keys := by
        obtain ⟨p', c', e, hI⟩ := Kind.own_is HL.out.key
        injection e with e _ _
        subst e
        rcases hI with hI | hI
        · rw [hI] at hlt; simp at hlt
        · exact hI
      obtain ⟨k0, k1⟩ := kk_at hrow i hlt
      have hfk := HFIT.out _ (List.getElem_mem hlt)
      have htk : keys.take (i + 1) = keys.take i ++ [keys[i]] := List.take_succ_eq_append_getElem hlt
      have hpart := HTL.out (i + 1)
      obtain ⟨k, hk⟩ : ∃ k, keys[i] = k := ⟨_, rfl⟩
      rw [hk] at k0 k1 hfk htk
      rw [htk, sinceL_snoc, List.length_append, List.length_map] at hpart
      have HSN : Hid (sinceL D t (keys.take (i + 1)) = sinceL D t (keys.take i) ++ (sinceV (ofD D k) t).map fun v => (k, v)) := by show _ = _; rw [htk, sinceL_snoc]
      obtain ⟨W2, hW2⟩ : ∃ W2, wr.alloc (.cells #[.string k.1, .string k.2] 31) = W2 := ⟨_, rfl⟩
      have hb2 : Below wr.heap.size wr W2 := by rw [← hW2]; exact (Below.refl _ _).alloc (Nat.le_refl _) _
      have hs2 := hb2.size
      have hk2 : W2.heap[wr.heap.size]? = some (.cells #[.string k.1, .string k.2] 31 (0, 0)) := by rw [← hW2]; exact heap_alloc_new wr _
      have hl2 := HL.out.on hsN hb2
      have HSI := hid (dsince_any (HH.out.on (by rw [hN]; exact hl2.bel)) k hfk t)
      have HL2 := hid hl2
      have HK2 := hid hk2
      have HMK := hid (HMAY.out k)
      obtain ⟨acc, hacc⟩ : ∃ acc, sinceL D t (keys.take i) = acc := ⟨_, rfl⟩
      rw [hacc] at HL2 HSN hpart
      obtain ⟨sv, hsv⟩ : ∃ sv, sinceV (ofD D k) t = sv := ⟨_, rfl⟩
      have HMS : Hid (∀ v ∈ sv, mayB v.val = true) := fun v hv => HMK.out v (by rw [← hsv] at hv; exact since_mem hv)
      rw [hsv] at HSI HSN hpart
      obtain ⟨K0, hK0⟩ : ∃ K0, wr.heap.size = K0 := ⟨_, rfl⟩
      rw [hK0] at HK2
      have e0 : W2.cell? ⟨K0, 0, none⟩ = some (.string k.1) := by rw [Lib.cell_of_heap HK2.out]; rfl
      have e1 : W2.cell? ⟨K0, 1, none⟩ = some (.string k.2) := by rw [Lib.cell_of_heap HK2.out]; rfl
      obtain ⟨ka, kbb⟩ := k
      simp only at *
      clear hrow hfk htk hk hb2 hk2 hl2 hacc hsv HL HMK
      go_wp2_with fail
      refine HSI.out.mono ?_
      rintro e w4 ⟨u4, o, rfl, b1, b2, _, b4, b5⟩
      have hs4 := b5.size
      have hol : o.length ≤ sv.length := by rw [← b4, List.length_map]; exact Nat.le_refl _
      have hJ4 : LgJ W N (.slice (some ⟨kb, ko, none⟩) keys.length kc) keys K0 (ka, kbb) u4 o fs acc (.slice fp fs.length fc) w4 := by
        have hl4 := HL2.out.on (by omega) b5
        exact ⟨hl4, (b5.block K0 (Array.getElem?_eq_some_iff.1 HK2.out).1).trans HK2.out, Kind.own_weak b1 (by omega), fun x hx => ⟨own_weakJ (b2 x hx) (by omega), HMS.out x.ver (by rw [← b4]; exact List.mem_map.2 ⟨x, hx, rfl⟩)⟩⟩
      obtain ⟨up, uc, rfl⟩ := Kind.own_shape b1
      have HJ4 := hid hJ4
      have HVER := hid b4
      have hfl : fs.length ≤ acc.length := Nat.le_of_eq HL2.out.len
      clear b1 b2 b4 b5 hJ4 HSI e0 e1 k0 k1
      go_wp2_with fail
      go_loopg [7, 25] o.length (fun gg vf vj wr2 => ∃ (j : Nat) (fs2 : List Fd), vj = .int .i64 j ∧ j ≤ o.length ∧ o.length - j ≤ gg ∧ fs2.length ≤ fs.length + j ∧ N ≤ wr2.heap.size ∧ Hid (LgJ W N (.slice (some ⟨kb, ko, none⟩) keys.length kc) keys K0 (ka, kbb) (.slice up o.length uc) o fs2 (acc ++ (o.take j).map fun x => ((ka, kbb), x.ver)) vf wr2))
      case atStart => exact ⟨0, fs, rfl, by omega, by omega, by omega, by omega, by show LgJ _ _ _ _ _ _ _ _ _ _ _ _; simpa using HJ4.out⟩
      case round =>
        obtain ⟨j, fs2, rfl, hj, hgj, hfl2, hsN2, HJ⟩ := hrel
        obtain ⟨vp, vc, rfl⟩ := Kind.own_shape HJ.out.lg.own
        by_cases hlj : j < o.length
        · have hljz : (j : Int) < (o.length : Int) := by omega
          have hjz : (0 : Int) ≤ j := by omega
          obtain ⟨vb, vo, rfl, hvr⟩ : ∃ b off, up = some ⟨b, off, none⟩ ∧ KV.At wr b off o := by
            obtain ⟨p', c', e, hI⟩ := Kind.own_is HJ.out.row
            injection e with e _ _
            subst e
            rcases hI with hI | hI
            · rw [hI] at hlj; simp at hlj
            · exact hI
          obtain ⟨q0, q1, q2, q3, q4⟩ := kv_at hvr j hlj
          have HXM := hid (List.getElem_mem hlj)
          have htj : o.take (j + 1) = o.take j ++ [o[j]] := List.take_succ_eq_append_getElem hlj
          obtain ⟨x, hx⟩ : ∃ x, o[j] = x := ⟨_, rfl⟩
          rw [hx] at q0 q1 q2 q3 q4 HXM htj
          have HTJ : Hid (acc ++ (o.take (j + 1)).map (fun x => ((ka, kbb), x.ver)) = (acc ++ (o.take j).map fun x => ((ka, kbb), x.ver)) ++ [((ka, kbb), x.ver)]) := by show _ = _; rw [htj, List.map_append, List.append_assoc]; rfl
          obtain ⟨W5, hW5⟩ : ∃ W5, wr.alloc (.cells (encVx x).toArray 56) = W5 := ⟨_, rfl⟩
          have hb5 : Below wr.heap.size wr W5 := by rw [← hW5]; exact (Below.refl _ _).alloc (Nat.le_refl _) _
          have hv5 : VerAt W5 wr.heap.size x := by rw [← hW5]; exact heap_alloc_new wr _
          have hs5 := hb5.size
          have HJ5 := hid (HJ.out.on hsN2 hb5)
          obtain ⟨V0, hV0⟩ : ∃ V0, wr.heap.size = V0 := ⟨_, rfl⟩
          rw [hV0] at hv5
          obtain ⟨y0, y1, y2, y3, y4⟩ := hv5.cells
          have z2 : W5.cell? ⟨K0, 0, none⟩ = some (.string ka) := by rw [Lib.cell_of_heap HJ5.out.box]; rfl
          have z3 : W5.cell? ⟨K0, 1, none⟩ = some (.string kbb) := by rw [Lib.cell_of_heap HJ5.out.box]; rfl
          have HO5 := hid HJ5.out.lg.own
          have hsN5 : N ≤ W5.heap.size := by omega
          obtain ⟨xn, xs, xt, xl, xp, xc, xo⟩ := x
          simp only [encVx, Vx.sl] at *
          clear hvr htj hx hb5 hv5 HJ
          go_wp2_with (first
            | (at_builtin; refine wpList_append_own _ rfl _ _ 40 rfl N 63 i0 (.agg #[.string ⟨#[]⟩, .string ⟨#[]⟩, .int .i64 0, .int .u64 0, .int .i64 0, .bool false, .slice none 0 0]) 7 88 Tryz.underlying40 HI.out hz0 hz1 hz2 rfl (by decide) _ _ _ rfl (World.ownsRow.alloc HO5.out _) _ 1 1 [.string ka, .string kbb, .int .i64 xn, .int .u64 xs, .int .i64 xt, .bool xl, .slice xp xo.length xc] rfl rfl (fun j u hj => KFd.newsN W5 ⟨ka, kbb, ⟨xn, xs, xt, xl, xp, xc, xo⟩⟩ _ (by simp) j u hj) (by intro u hu; simp at hu; rcases hu with rfl | rfl | rfl | rfl | rfl | rfl | rfl <;> rfl) (by unfold maxLen; omega) (by omega) (by simp; omega) ?_; intro v6 w6 hown6 hg6 hnil6; have HO6 := hid hown6; have HG6 := hid hg6; clear hown6 hg6 hnil6))
          go_roundg (o.length - (j + 1))
          case measure => omega
          have hb6 : Below W5.heap.size W5 (W5.alloc (.cells #[.string ka, .string kbb, .int .i64 xn, .int .u64 xs, .int .i64 xt, .bool xl, .slice xp xo.length xc] 63)) := (Below.refl _ _).alloc (Nat.le_refl _) _
          have hJ6 := (HJ5.out.on hsN5 hb6).push (v' := v6) (by simp; omega) HG6.out HXM.out (Kind.own_snoc HO6.out rfl rfl)
          refine ⟨j + 1, fs2 ++ [⟨ka, kbb, ⟨xn, xs, xt, xl, xp, xc, xo⟩⟩], by go_num, by omega, by omega, by rw [List.length_append, List.length_singleton]; omega, ?_, ?_⟩
          · have := HG6.out.size
            simp at this
            omega
          · show LgJ _ _ _ _ _ _ _ _ _ _ _ _
            rw [HTJ.out]
            exact hJ6
        · have hljz : ¬ (j : Int) < (o.length : Int) := by omega
          have htj : o.take j = o := List.take_of_length_le (by omega)
          have HLN : Hid (LgIn W N (.slice (some ⟨kb, ko, none⟩) keys.length kc) keys fs2 (sinceL D t (keys.take (i + 1))) (.slice vp fs2.length vc) wr) := by
            have := HJ.out.lg
            rw [htj] at this
            show LgIn _ _ _ _ _ _ _ _
            rw [HSN.out, ← HVER.out, List.map_map]
            exact this
          clear htj HJ
          go_wp2_with fail
          go_roundg (keys.length - (i + 1))
          case measure => omega
          exact ⟨i + 1, fs2, by go_num, by omega, by omega, HLN.out⟩
    · have hltz : ¬ (i : Int) < (keys.length : Int) := by omega
      have hti : keys.take i = keys := List.take_of_length_le (by omega)
      rw [hti, HEQ.out] at HL
      have hfl := HL.out.len
      have hpl := HTL.out i
      rw [hti, HEQ.out] at hpl
      have HSO := hid (sortrowF_any HL.out.own (by omega) hsN)
      clear hti hfl hpl
      go_wp2_with fail
      refine HSO.out.mono ?_
      rintro e w5 ⟨rfl, l, s1, s2, s3, s4⟩
      have hll : l.length = fs.length := s2.length_eq
      have HP : Hid (LogPost W D typ t (.returned (.slice fp fs.length fc)) w5) := by
        refine ⟨l.map Fd.fnd, ⟨_, l, rfl, by rw [hN]; exact s1, fun f hf => ?_, rfl, ?_⟩, by rw [← HL.out.eq]; exact s2.map _, s3⟩
        · have hf' := s2.mem_iff.1 hf
          rw [hN]
          refine ⟨ownJ_fr (HL.out.val f hf').1 s4 fun k hk e => ?_, (HL.out.val f hf').2⟩
          obtain ⟨c1, t1, h3, h5⟩ := ownJ_cells (HL.out.val f hf').1 hk
          obtain ⟨c2, h4⟩ := own_type HL.out.own e
          rw [h3] at h4
          injection h4 with h4
          injection h4 with _ h4 _
          rcases h5 with h5 | h5
          · exact absurd (h5.symm.trans h4) (by decide)
          · exact absurd (h5.symm.trans h4) (by decide)
        · rw [hN]
          exact HL.out.bel.trans (s4.below hsN fun b hb => (World.ownsRow.lt HL.out.own b hb).1)
      clear s1 s2 s3 s4 HSO HL hll
      go_wp2_with fail
      go_ret
      exact HP.out

end Go.Proofs.YtmfhbkickaofcaaGreat

/-
  A directory by what it holds alone (stage 7); operations in memory, and the directory that a script lays.
-/
namespace Go.Proofs.YtmfhbkickaofcaaGreat
open Go.RowKit

/-- A directory in block g, all of it from n0 on, that holds D. -/
def DirS (n0 g n : Nat) (D : List RowD) (W : World) : Prop := ∃ m G, DirM n0 W g m n G D

theorem DirS.on {n0 g n : Nat} {D : List RowD} {W W' : World} (h : DirS n0 g n D W) (hb : Below W.heap.size W W') : DirS n0 g n D W' := by
  obtain ⟨m, G, h⟩ := h
  exact ⟨m, G, h.on hb⟩
theorem DirS.ok {n0 g n : Nat} {D : List RowD} {W : World} (h : DirS n0 g n D W) : OkD D := by
  obtain ⟨m, G, h⟩ := h
  exact h.ok
theorem DirS.few {n0 g n : Nat} {D : List RowD} {W : World} (h : DirS n0 g n D W) : countD D ≤ n := by
  obtain ⟨m, G, h⟩ := h
  exact h.few
theorem DirS.key {n0 g n : Nat} {D : List RowD} {W : World} (h : DirS n0 g n D W) : ∀ k, ofD D k ≠ [] → keyB k.1 k.2 = true := by
  obtain ⟨m, G, h⟩ := h
  exact h.key
theorem DirS.base {n0 g n : Nat} {D : List RowD} {W : World} (h : DirS n0 g n D W) : n0 ≤ W.heap.size := by
  obtain ⟨m, G, h⟩ := h
  have h1 := h.map.lt
  have h2 := h.bm
  omega
theorem DirS.may {n0 g n : Nat} {D : List RowD} {W : World} (h : DirS n0 g n D W) (k : Ky) : ∀ v ∈ ofD D k, mayB v.val = true := by
  obtain ⟨m, G, h⟩ := h
  intro v hv
  have hne : ofD D k ≠ [] := by intro e; rw [e] at hv; simp at hv
  obtain ⟨h1, h2⟩ := h.prg k hne
  rw [← h2] at hv
  obtain ⟨x, hx, rfl⟩ := List.mem_map.1 hv
  exact (h1.each x hx).2

theorem turn_dirS {n0 : Nat} {W w' : World} {g m n n' : Nat} {G : Ky → Cm} {D D' : List RowD} (h : DirM n0 W g m n G D) (ht : TurnD n0 W g m G D n' D' w') : DirS n0 g n' D' w' ∧ Below n0 W w' := by
  obtain ⟨G', h1, _, h3⟩ := ht
  refine ⟨⟨m, G', h1⟩, h3.below ?_ fun k hk => (h.blk k hk).1⟩
  have := h.map.lt
  have := h.bm
  omega

theorem s_new (w : World) : Calls Tryz.prog 10 #[] w fun e w' => e = .returned (.pointer (some ⟨w.heap.size + 1, 0, none⟩)) ∧ DirS w.heap.size (w.heap.size + 1) 0 [] w' ∧ Below w.heap.size w w' := by
  have hmm := @run_makeMap Tryz.prog
  have hb : Below w.heap.size w ((w.alloc (.map #[] 0)).alloc (.cells #[.map (some w.heap.size)] 82)) := ((Below.refl _ _).alloc (Nat.le_refl _) _).alloc (by simp) _
  have HM : Hid (DirM w.heap.size ((w.alloc (.map #[] 0)).alloc (.cells #[.map (some w.heap.size)] 82)) (w.heap.size + 1) w.heap.size 0 (fun _ => ⟨0, [], .slice none 0 0⟩) []) := by
    have h1 := heap_alloc_new (w.alloc (.map #[] 0)) (.cells #[.map (some w.heap.size)] 82)
    rw [World.size_alloc] at h1
    refine ⟨by rw [Lib.cell_of_heap h1]; rfl, by omega, Nat.le_refl _, ?_, fun k hk => absurd rfl hk, fun k1 k2 hk => absurd rfl hk, fun k hk => absurd rfl hk, okD_nil, fun k hk => absurd rfl hk, fun k => by show (0 : Int) ≤ _; omega, Nat.le_refl _⟩
    exact (mapD_made w).on (Below.heap_alloc _ _ _ (by simp))
  have HB := hid hb
  clear hb
  go_enter Tryz.func10, Tryz.ntmps10
  go_wp2_with fail
  go_ret
  exact ⟨rfl, ⟨_, _, HM.out⟩, HB.out⟩

theorem s_put {n0 g n : Nat} {D : List RowD} {W : World} (h : DirS n0 g n D W) (hn : n < 2400000000000) (k : Ky) (hk : FitK k) (stamp tick : Int) (live : Bool) (v : Value) (e : List Fx) (val : List Fld) (hv : IsXs W v e) (hf : FitX e) (hval : e.map Fx.fld = val) (h0 : 0 ≤ stamp) :
    Calls Tryz.prog 29 #[.pointer (some ⟨g, 0, none⟩), .agg #[.string k.1, .string k.2], .int .u64 stamp, .int .i64 tick, .bool live, v] W fun r w' =>
      r = .returned (.tuple #[.int .i64 (numD D k stamp live val), .int .i64 (codeD D k stamp live val)]) ∧ DirS n0 g (n + 1) (putD D k stamp tick live val) w' ∧ Below n0 W w' := by
  have hb := h.base
  obtain ⟨m, G, h⟩ := h
  refine (dput_any h hn hb k hk stamp tick live v e val hv hf hval h0).mono ?_
  rintro r w' ⟨h1, h2⟩
  exact ⟨h1, turn_dirS h h2⟩

theorem s_prune {n0 g n : Nat} {D : List RowD} {W : World} (h : DirS n0 g n D W) (hn : n ≤ 2400000000000) (f : Int) :
    Calls Tryz.prog 18 #[.pointer (some ⟨g, 0, none⟩), .int .u64 f] W fun e w' => e = .returned (.int .i64 (goneD D f : Nat)) ∧ DirS n0 g n (pruneD D f) w' ∧ Below n0 W w' := by
  obtain ⟨m, G, h⟩ := h
  refine (dprune_any h hn f).mono ?_
  rintro r w' ⟨h1, h2⟩
  exact ⟨h1, turn_dirS h h2⟩

section
variable {n0 g n : Nat} {D : List RowD} {W : World}
theorem s_at (h : DirS n0 g n D W) (k : Ky) (hk : FitK k) (t : Int) : Calls Tryz.prog 25 #[.pointer (some ⟨g, 0, none⟩), .agg #[.string k.1, .string k.2], .int .u64 t] W fun e w' => VAns W (atV (ofD D k) t) e w' := by
  obtain ⟨m, G, h⟩ := h; exact dat_any h k hk t
theorem s_number (h : DirS n0 g n D W) (k : Ky) (hk : FitK k) (i : Int) (hi : i ≤ 9223372036854775807) : Calls Tryz.prog 31 #[.pointer (some ⟨g, 0, none⟩), .agg #[.string k.1, .string k.2], .int .i64 i] W fun e w' => VAns W (numV (ofD D k) i) e w' := by
  obtain ⟨m, G, h⟩ := h; exact dnumber_any h k hk i hi
theorem s_last (h : DirS n0 g n D W) (k : Ky) (hk : FitK k) : Calls Tryz.prog 26 #[.pointer (some ⟨g, 0, none⟩), .agg #[.string k.1, .string k.2]] W fun e w' => VAns W (ofD D k).getLast? e w' := by
  obtain ⟨m, G, h⟩ := h; exact dlast_any h k hk
theorem s_first (h : DirS n0 g n D W) (hn : n ≤ 2400000000000) (k : Ky) (hk : FitK k) : Calls Tryz.prog 28 #[.pointer (some ⟨g, 0, none⟩), .agg #[.string k.1, .string k.2]] W fun e w' => VAns W (ofD D k).head? e w' := by
  obtain ⟨m, G, h⟩ := h; exact dfirst_any h hn k hk
theorem s_since (h : DirS n0 g n D W) (k : Ky) (hk : FitK k) (t : Int) : Calls Tryz.prog 24 #[.pointer (some ⟨g, 0, none⟩), .agg #[.string k.1, .string k.2], .int .u64 t] W fun e w' => AllPost W (sinceV (ofD D k) t) e w' := by
  obtain ⟨m, G, h⟩ := h; exact dsince_any h k hk t
theorem s_keys (h : DirS n0 g n D W) (hn : n ≤ 2400000000000) (typ : ByteArray) : Calls Tryz.prog 22 #[.pointer (some ⟨g, 0, none⟩), .string typ] W fun e w' => ∃ u, e = .returned u ∧ KK.Own W.heap.size w' u (keysD D typ) ∧ Below W.heap.size W w' := by
  obtain ⟨m, G, h⟩ := h; exact dkeys_any h hn typ
theorem s_scan (h : DirS n0 g n D W) (hn : n ≤ 1200000000000) (typ : ByteArray) (t : Int) (pa : Option Addr) (pc : Nat) (pt : List Tm) (hp : KM.Is W (.slice pa pt.length pc) pt) (hpf : FitM pt) : Calls Tryz.prog 19 #[.pointer (some ⟨g, 0, none⟩), .string typ, .int .u64 t, .slice pa pt.length pc] W fun e w' => FdPost W (scanD D typ t (matchM pt)) e w' := by
  obtain ⟨m, G, h⟩ := h; exact dscan_any h hn typ t pa pc pt hp hpf
theorem s_log (h : DirS n0 g n D W) (hn : n ≤ 1200000000000) (typ : ByteArray) (t : Int) : Calls Tryz.prog 20 #[.pointer (some ⟨g, 0, none⟩), .string typ, .int .u64 t] W fun e w' => LogPost W D typ t e w' := by
  obtain ⟨m, G, h⟩ := h; exact dlog_any h hn typ t
theorem s_walked (h : DirS n0 g n D W) (hn : n ≤ 1200000000000) (t : Int) : Calls Tryz.prog 15 #[.pointer (some ⟨g, 0, none⟩), .int .u64 t] W fun e w' => FdPost W ((walkD D t).take 65537) e w' := by
  obtain ⟨m, G, h⟩ := h; exact walked_any h hn t
theorem s_count (h : DirS n0 g n D W) (hn : n ≤ 2400000000000) : Calls Tryz.prog 12 #[.pointer (some ⟨g, 0, none⟩)] W fun e w' => e = .returned (.int .i64 (countD D : Nat)) ∧ Below W.heap.size W w' := by
  obtain ⟨m, G, h⟩ := h; exact dcount_any h hn
end

/-! ## Operations -/

/-- An operation as it lies in memory. -/
structure Oy where
  kind : Int
  a : ByteArray
  b : ByteArray
  stamp : Int
  tick : Int
  live : Bool
  p : Option Addr
  cap : Nat
  o : List Fx
  q : Option Addr
  qcap : Nat
  tm : List Tm
  n : Int
  deriving Inhabited

def Oy.val (x : Oy) : List Fld := x.o.map Fx.fld
def Oy.key (x : Oy) : Ky := (x.a, x.b)
def encY (x : Oy) : List Value := [.int .i64 x.kind, .string x.a, .string x.b, .int .u64 x.stamp, .int .i64 x.tick, .bool x.live, .slice x.p x.o.length x.cap, .slice x.q x.tm.length x.qcap, .int .i64 x.n]
def KY : Kind Oy := ⟨36, 9, encY, fun _ => rfl, by decide, fun x u hu => by simp [encY] at hu; rcases hu with rfl | rfl | rfl | rfl | rfl | rfl | rfl | rfl | rfl <;> rfl⟩

structure OpY (w : World) (x : Oy) : Prop where
  is : IsXs w (.slice x.p x.o.length x.cap) x.o
  fit : FitX x.o
  pis : KM.Is w (.slice x.q x.tm.length x.qcap) x.tm
  pfit : FitM x.tm
  kfit : FitK x.key
  lo : 0 ≤ x.stamp
  hi : x.stamp ≤ 18446744073709551615

theorem OpY.on {w W : World} {x : Oy} (h : OpY w x) (hb : Below w.heap.size w W) : OpY W x := ⟨h.is.kept hb, h.fit, Kind.is_kept h.pis hb, h.pfit, h.kfit, h.lo, h.hi⟩

theorem ky_at {w : World} {b off : Nat} {d : List Oy} (h : KY.At w b off d) (i : Nat) (hi : i < d.length) :
    w.cell? ⟨b, off + i * 9, none⟩ = some (.int .i64 (d[i]).kind) ∧ w.cell? ⟨b, off + i * 9 + 1, none⟩ = some (.string (d[i]).a) ∧ w.cell? ⟨b, off + i * 9 + 2, none⟩ = some (.string (d[i]).b) ∧ w.cell? ⟨b, off + i * 9 + 3, none⟩ = some (.int .u64 (d[i]).stamp) ∧ w.cell? ⟨b, off + i * 9 + 4, none⟩ = some (.int .i64 (d[i]).tick) ∧ w.cell? ⟨b, off + i * 9 + 5, none⟩ = some (.bool (d[i]).live) ∧ w.cell? ⟨b, off + i * 9 + 6, none⟩ = some (.slice (d[i]).p (d[i]).o.length (d[i]).cap) ∧ w.cell? ⟨b, off + i * 9 + 7, none⟩ = some (.slice (d[i]).q (d[i]).tm.length (d[i]).qcap) ∧ w.cell? ⟨b, off + i * 9 + 8, none⟩ = some (.int .i64 (d[i]).n) :=
  ⟨h i hi 0 _ rfl, h i hi 1 _ rfl, h i hi 2 _ rfl, h i hi 3 _ rfl, h i hi 4 _ rfl, h i hi 5 _ rfl, h i hi 6 _ rfl, h i hi 7 _ rfl, h i hi 8 _ rfl⟩

/-- What a script lays. -/
def stepD (D : List RowD) (x : Oy) : List RowD := if x.kind = 12 then pruneD D x.stamp else putD D x.key x.stamp x.tick x.live x.val
def laidD (ops : List Oy) : List RowD := ops.foldl stepD []
theorem laidD_snoc (ops : List Oy) (x : Oy) : laidD (ops ++ [x]) = stepD (laidD ops) x := by unfold laidD; rw [List.foldl_append]; rfl

def LaidD (w : World) (ops : List Oy) (e : Ending) (w' : World) : Prop := ∃ g, e = .returned (.pointer (some ⟨g, 0, none⟩)) ∧ DirS w.heap.size g ops.length (laidD ops) w' ∧ Below w.heap.size w w'

set_option maxHeartbeats 4000000 in
set_option maxRecDepth 100000 in
theorem laidD_any (v : Value) (ops : List Oy) (w : World) (hv : KY.Is w v ops) (hx : ∀ x ∈ ops, OpY w x) (hl : ops.length ≤ 1200000000000) :
    Calls Tryz.prog 17 #[v] w fun e w' => LaidD w ops e w' := by
  obtain ⟨p, cap, rfl, hd⟩ := hv
  have HD := hid hd
  have HX := hid hx
  have HN := hid (s_new w)
  clear hd hx
  go_enter Tryz.func17, Tryz.ntmps17
  go_wp2_with fail
  refine HN.out.mono ?_
  rintro e w1 ⟨rfl, hp1, hb1⟩
  obtain ⟨N, hN⟩ : ∃ N, w.heap.size = N := ⟨_, rfl⟩
  rw [hN] at hp1 hb1
  have H0 : Hid (DirS N (N + 1) 0 (laidD []) w1 ∧ Below N w w1) := ⟨hp1, hb1⟩
  clear hp1 hb1 HN
  try rw [hN]
  go_wp2_with fail
  try rw [hN]
  go_loopg [9] ops.length (fun gg vi wr => ∃ (i : Nat), vi = .int .i64 i ∧ i ≤ ops.length ∧ ops.length - i ≤ gg ∧ Hid (DirS N (N + 1) i (laidD (ops.take i)) wr ∧ Below N w wr))
  case atStart => exact ⟨0, rfl, by omega, by omega, H0.out⟩
  case round =>
    clear H0
    obtain ⟨i, rfl, hi, hgk, HI⟩ := hrel
    by_cases hlt : i < ops.length
    · have hltz : (i : Int) < (ops.length : Int) := by omega
      have hiz : (0 : Int) ≤ i := by omega
      obtain ⟨b1, o1, rfl, k1⟩ : ∃ b off, p = some ⟨b, off, none⟩ ∧ KY.At w b off ops := by
        rcases HD.out with h | h
        · rw [h] at hlt; simp at hlt
        · exact h
      have hbw : Below w.heap.size w wr := by rw [hN]; exact HI.out.2
      obtain ⟨y0, y1, y2, y3, y4, y5, y6, y7, y8⟩ := ky_at (Kind.at_kept k1 hbw) i hlt
      have hxi := (HX.out _ (List.getElem_mem hlt)).on hbw
      have htk : ops.take (i + 1) = ops.take i ++ [ops[i]] := List.take_succ_eq_append_getElem hlt
      have HNX := hid (laidD_snoc (ops.take i) ops[i])
      rw [← htk] at HNX
      generalize ops[i] = x at *
      have hba : Below wr.heap.size wr (wr.alloc (.cells (encY x).toArray 36)) := (Below.refl _ _).alloc (Nat.le_refl _) _
      have hsN : N ≤ wr.heap.size := HI.out.1.base
      have hD1 := HI.out.1.on hba
      have HBW := hid (bel_then HI.out.2 hsN hba)
      have HPUT := hid (s_put hD1 (by omega) x.key hxi.kfit x.stamp x.tick x.live _ x.o x.val (hxi.is.kept hba) hxi.fit rfl hxi.lo)
      have HPRU := hid (s_prune hD1 (by omega) x.stamp)
      have HK12 : Hid (x.kind = 12 → stepD (laidD (ops.take i)) x = pruneD (laidD (ops.take i)) x.stamp) := fun h => by unfold stepD; rw [if_pos h]
      have HKO : Hid (¬ x.kind = 12 → stepD (laidD (ops.take i)) x = putD (laidD (ops.take i)) x.key x.stamp x.tick x.live x.val) := fun h => by unfold stepD; rw [if_neg h]
      have HMONO : Hid (∀ D W, DirS N (N + 1) i D W → DirS N (N + 1) (i + 1) D W) := fun D W ⟨m, G, h⟩ => ⟨m, G, h.mono (Nat.le_succ i)⟩
      generalize laidD (ops.take i) = L at *
      clear hD1 hxi HI k1 htk hbw hba
      obtain ⟨xk, xa, xb, xs, xt, xl, xp, xc, xo, xq, xqc, xm, xn⟩ := x
      simp only [encY, Oy.key] at *
      by_cases h12 : xk = 12
      · subst h12
        have HE := hid (HNX.out.trans (HK12.out rfl))
        go_wp2_with fail
        refine HPRU.out.mono ?_
        rintro e w2 ⟨rfl, ht2, hb2⟩
        have HN2 : Hid (DirS N (N + 1) (i + 1) (laidD (ops.take (i + 1))) w2 ∧ Below N w w2) := by
          refine ⟨?_, HBW.out.trans hb2⟩
          rw [HE.out]
          exact HMONO.out _ _ ht2
        clear ht2 hb2 HPUT HPRU HK12 HKO HNX HE HBW
        go_wp2_with fail
        go_roundg (ops.length - (i + 1))
        case measure => omega
        exact ⟨i + 1, by go_num, by omega, by omega, HN2.out⟩
      · have h12b : (xk == 12) = false := by simpa using h12
        have HE := hid (HNX.out.trans (HKO.out h12))
        go_wp2_with fail
        refine HPUT.out.mono ?_
        rintro e w2 ⟨rfl, ht2, hb2⟩
        have HN2 : Hid (DirS N (N + 1) (i + 1) (laidD (ops.take (i + 1))) w2 ∧ Below N w w2) := by
          refine ⟨?_, HBW.out.trans hb2⟩
          rw [HE.out]
          exact ht2
        clear ht2 hb2 HPUT HPRU HK12 HKO HNX HE HBW
        go_wp2_with fail
        go_roundg (ops.length - (i + 1))
        case measure => omega
        exact ⟨i + 1, by go_num, by omega, by omega, HN2.out⟩
    · have hltz : ¬ (i : Int) < (ops.length : Int) := by omega
      have hil : i = ops.length := by omega
      have hti : ops.take i = ops := List.take_of_length_le (by omega)
      rw [hti, hil] at HI
      clear hti
      go_wp2_with fail
      go_ret
      exact ⟨N + 1, rfl, by rw [hN]; exact HI.out.1, by rw [hN]; exact HI.out.2⟩

end Go.Proofs.YtmfhbkickaofcaaGreat

/-
  The laws of stage 7: the chapter's examples, as data.
-/
namespace Go.Proofs.YtmfhbkickaofcaaGreat
open Go.RowKit

def fxT : ByteArray := ⟨#[65]⟩
def fxa : Ky := (⟨#[65]⟩, ⟨#[97]⟩)
def fxb : Ky := (⟨#[65]⟩, ⟨#[98]⟩)
def fxc : Ky := (⟨#[97]⟩, ⟨#[98]⟩)
def fxV : List Fld := [(⟨#[110]⟩, [⟨#[120]⟩])]
theorem fx_may : mayB fxV = true := by decide
theorem fx_ka : keyB fxa.1 fxa.2 = true := by decide
theorem fx_kb : keyB fxb.1 fxb.2 = true := by decide
theorem fx_kc : keyB fxc.1 fxc.2 = false := by decide
theorem fx_ne : fxa ≠ fxb := by
  intro h
  have := congrArg (fun k : Ky => k.2.data.toList) h
  simp [fxa, fxb] at this
theorem fx_lt : ltKy fxa fxb = true := by decide
theorem fx_nlt : ltKy fxb fxa = false := by decide

def fv1 : Vr := ⟨1, 1, 0, true, fxV⟩
def fva : Vr := ⟨1, 2, 0, true, []⟩
def fv2 : Vr := ⟨2, 3, 1, false, []⟩
def fD1 : List RowD := [(fxb, [fv1])]
def fD2 : List RowD := [(fxa, [fva]), (fxb, [fv1])]
def fD3 : List RowD := [(fxa, [fva]), (fxb, [fv1, fv2])]

theorem of1b : ofD fD1 fxb = [fv1] := by unfold fD1 ofD; rw [if_pos rfl]
theorem of1a : ofD fD1 fxa = [] := by unfold fD1 ofD; rw [if_neg (fun e => fx_ne e.symm)]; rfl
theorem of2b : ofD fD2 fxb = [fv1] := by unfold fD2 ofD; rw [if_neg fx_ne]; exact of1b
theorem of3b : ofD fD3 fxb = [fv1, fv2] := by unfold fD3 ofD; rw [if_neg fx_ne]; unfold ofD; rw [if_pos rfl]

theorem fc1 : codeD [] fxb 1 true fxV = 0 := by unfold codeD; rw [if_pos fx_kb]; show putC [] 1 true fxV = 0; unfold putC; rw [fx_may]; rfl
theorem fp1 : putD [] fxb 1 0 true fxV = fD1 := by unfold putD; rw [if_pos fc1]; rfl
theorem fn1 : numD [] fxb 1 true fxV = 1 := by unfold numD; rw [if_pos fc1]; rfl
theorem fc2 : codeD fD1 fxa 2 true [] = 0 := by unfold codeD; rw [if_pos fx_ka, of1a]; unfold putC; rw [may_nil]; rfl
theorem fp2 : putD fD1 fxa 2 0 true [] = fD2 := by
  unfold putD; rw [if_pos fc2, of1a]; unfold fD1 setD; rw [if_pos fx_lt]; rfl
theorem fn2 : numD fD1 fxa 2 true [] = 1 := by unfold numD; rw [if_pos fc2, of1a]; rfl
theorem fc3 : codeD fD2 fxb 3 false [] = 0 := by unfold codeD; rw [if_pos fx_kb, of2b]; unfold putC; rw [may_nil]; rfl
theorem fp3 : putD fD2 fxb 3 1 false [] = fD3 := by
  unfold putD; rw [if_pos fc3, of2b]; unfold fD2 setD; rw [fx_nlt, if_neg (by simp), if_neg fx_ne]; unfold setD; rw [totK.irr, if_neg (by simp), if_pos rfl]; rfl
theorem fn3 : numD fD2 fxb 3 false [] = 2 := by unfold numD; rw [if_pos fc3, of2b]; rfl
theorem fc4 : codeD fD3 fxc 9 true [] = 2 := by unfold codeD; rw [fx_kc]; rfl
theorem fp4 : putD fD3 fxc 9 0 true [] = fD3 := by unfold putD; rw [fc4]; rfl
theorem fn4 : numD fD3 fxc 9 true [] = 0 := by unfold numD; rw [fc4]; rfl

theorem fat : atV (ofD fD3 fxb) 1 = some fv1 := by rw [of3b]; rfl
theorem flast : (ofD fD3 fxb).getLast? = some fv2 := by rw [of3b]; rfl
theorem fnum : numV (ofD fD3 fxb) 2 = some fv2 := by rw [of3b]; rfl
theorem ffirst : (ofD fD3 fxb).head? = some fv1 := by rw [of3b]; rfl
theorem fsince : sinceV (ofD fD3 fxb) 1 = [fv2] := by rw [of3b]; rfl
theorem fkeys : (keysD fD3 fxT).length = 2 := by
  unfold keysD fD3
  simp [fxa, fxb, fxT]
theorem fwalk : walkD fD3 2 = [(fxa, fva), (fxb, fv1)] := rfl
theorem fwl : ((walkD fD3 2).take 65537).length = 2 := by rw [fwalk, List.take_of_length_le (by simp)]; rfl
theorem fscan : (scanD fD3 fxT 2 (matchM [])).length = 2 := by
  unfold scanD
  rw [fwalk]
  simp [fxa, fxb, fxT, matchM]
theorem flog : (sinceD fD3 fxT 1).length = 2 := by
  unfold sinceD fD3
  have h1 : sinceV [fva] 1 = [fva] := rfl
  have h2 : sinceV [fv1, fv2] 1 = [fv2] := rfl
  simp [fxa, fxb, fxT, h1, h2]
theorem fcount : countD fD3 = 3 := rfl
theorem fgone : goneD fD3 3 = 1 := rfl

end Go.Proofs.YtmfhbkickaofcaaGreat

/-
  The laws of stage 7: the chapter's examples, walked.
-/
namespace Go.Proofs.YtmfhbkickaofcaaGreat
open Go.RowKit

/-- A directory whose blocks are all of Q. -/
def DirQ (Q : Nat → Prop) (n0 g n : Nat) (D : List RowD) (W : World) : Prop := ∃ m G, DirM n0 W g m n G D ∧ ∀ b, BlkD g m G D b → Q b

theorem DirQ.s {Q : Nat → Prop} {n0 g n : Nat} {D : List RowD} {W : World} (h : DirQ Q n0 g n D W) : DirS n0 g n D W := by
  obtain ⟨m, G, h, _⟩ := h
  exact ⟨m, G, h⟩
theorem DirQ.on {Q : Nat → Prop} {n0 g n : Nat} {D : List RowD} {W W' : World} (h : DirQ Q n0 g n D W) (hb : Below W.heap.size W W') : DirQ Q n0 g n D W' := by
  obtain ⟨m, G, h, hq⟩ := h
  exact ⟨m, G, h.on hb, hq⟩

theorem q_put {Q : Nat → Prop} {n0 g n : Nat} {D : List RowD} {W : World} (h : DirQ Q n0 g n D W) (hQ : ∀ b, W.heap.size ≤ b → Q b) (hn : n < 2400000000000) (k : Ky) (hk : FitK k) (stamp tick : Int) (live : Bool) (v : Value) (e : List Fx) (val : List Fld) (hv : IsXs W v e) (hf : FitX e) (hval : e.map Fx.fld = val) (h0 : 0 ≤ stamp) :
    Calls Tryz.prog 29 #[.pointer (some ⟨g, 0, none⟩), .agg #[.string k.1, .string k.2], .int .u64 stamp, .int .i64 tick, .bool live, v] W fun r w' =>
      r = .returned (.tuple #[.int .i64 (numD D k stamp live val), .int .i64 (codeD D k stamp live val)]) ∧ DirQ Q n0 g (n + 1) (putD D k stamp tick live val) w' ∧ Fr Q W w' ∧ Below n0 W w' := by
  have hb := h.s.base
  obtain ⟨m, G, h, hq⟩ := h
  refine (dput_any h hn hb k hk stamp tick live v e val hv hf hval h0).mono ?_
  rintro r w' ⟨h1, h2⟩
  have h3 := (turn_dirS h h2).2
  obtain ⟨G', a1, a2, a3⟩ := h2
  refine ⟨h1, ⟨m, G', a1, fun b hb => ?_⟩, a3.mono hq, h3⟩
  rcases a2 b hb with h | h
  · exact hq b h
  · exact hQ b h

theorem fx_is (W : World) : IsXs ((W.alloc (.cells #[.string ⟨#[120]⟩] 9)).alloc (.cells #[.string ⟨#[110]⟩, .slice (some ⟨W.heap.size, 0, none⟩) 1 1] 68)) (.slice (some ⟨W.heap.size + 1, 0, none⟩) 1 1) [⟨⟨#[110]⟩, some ⟨W.heap.size, 0, none⟩, 1, [⟨#[120]⟩]⟩] := by
  have h1 := heap_alloc2_new W (.cells #[.string ⟨#[120]⟩] 9) (.cells #[.string ⟨#[110]⟩, .slice (some ⟨W.heap.size, 0, none⟩) 1 1] 68)
  have h2 := heap_alloc2_old W (.cells #[.string ⟨#[120]⟩] 9) (.cells #[.string ⟨#[110]⟩, .slice (some ⟨W.heap.size, 0, none⟩) 1 1] 68)
  refine ⟨_, _, rfl, Or.inr ⟨_, _, rfl, fun i hi => ?_⟩, fun x hx => ?_⟩
  · have hi' : i = 0 := by simpa using hi
    subst hi'
    exact ⟨by rw [Lib.cell_of_heap h1]; rfl, by rw [Lib.cell_of_heap h1]; rfl⟩
  · rw [List.mem_singleton] at hx
    subst hx
    refine Or.inr ⟨_, _, rfl, fun i hi => ?_⟩
    have hi' : i = 0 := by simpa using hi
    subst hi'
    rw [Lib.cell_of_heap h2]; rfl

theorem fx_fit (a : Option Addr) : FitX [⟨⟨#[110]⟩, a, 1, [⟨#[120]⟩]⟩] := (may_fit (o := [⟨⟨#[110]⟩, a, 1, [⟨#[120]⟩]⟩]) fx_may).1
theorem isx_none (W : World) : IsXs W (.slice none 0 0) [] := ⟨none, 0, rfl, Or.inl rfl, fun x hx => by simp at hx⟩
theorem fitx_none : FitX [] := ⟨Nat.zero_le _, fun x hx => by simp at hx⟩
theorem fx_fa : FitK fxa := key_fit fx_ka
theorem fx_fb : FitK fxb := key_fit fx_kb
theorem fx_fc : FitK fxc := by unfold FitK maxLen; exact ⟨by decide, by decide⟩
theorem vparts {x : Vx} {v : Vr} (h : x.ver = v) : x.num = v.num ∧ x.stamp = v.stamp := by rw [← h]; exact ⟨rfl, rfl⟩

set_option maxHeartbeats 8000000 in
set_option maxRecDepth 100000 in
theorem fixedD_any (w : World) : Calls Tryz.prog 9 #[] w fun e w' => e = .returned (.bool true) ∧ Below w.heap.size w w' := by
  have HN := hid (s_new w)
  obtain ⟨N, hN⟩ : ∃ N, w.heap.size = N := ⟨_, rfl⟩
  rw [hN] at HN
  rw [hN]
  go_enter Tryz.func9, Tryz.ntmps9
  go_wp2_with fail
  refine HN.out.mono ?_
  rintro e w1 ⟨rfl, hp1, hb1⟩
  have hs1 : N + 2 ≤ w1.heap.size := by
    obtain ⟨m, G, h⟩ := hp1
    have := cell_block h.cell
    have : N + 1 < w1.heap.size := this
    omega
  obtain ⟨A1, hA1⟩ : ∃ A1, w1.heap.size = A1 := ⟨_, rfl⟩
  obtain ⟨W2, hW2⟩ : ∃ W2, (w1.alloc (.cells #[.string ⟨#[65]⟩, .string ⟨#[97]⟩] 31)).alloc (.cells #[.string ⟨#[65]⟩, .string ⟨#[98]⟩] 31) = W2 := ⟨_, rfl⟩
  have hbW2 : Below w1.heap.size w1 W2 := by rw [← hW2]; exact ((Below.refl _ _).alloc (Nat.le_refl _) _).alloc (by simp) _
  have hsW2 : W2.heap.size = A1 + 2 := by rw [← hW2, ← hA1]; simp
  have hka : W2.heap[A1]? = some (.cells #[.string ⟨#[65]⟩, .string ⟨#[97]⟩] 31 (0, 0)) := by rw [← hW2, ← hA1, Below.heap_alloc _ _ _ (by simp)]; exact heap_alloc_new w1 _
  have hkb : W2.heap[A1 + 1]? = some (.cells #[.string ⟨#[65]⟩, .string ⟨#[98]⟩] 31 (0, 0)) := by
    rw [← hW2, ← hA1]; have := heap_alloc_new (w1.alloc (.cells #[.string ⟨#[65]⟩, .string ⟨#[97]⟩] 31)) (.cells #[.string ⟨#[65]⟩, .string ⟨#[98]⟩] 31); simpa using this
  have KA : Hid (∀ w' : World, w'.heap[A1]? = W2.heap[A1]? → w'.cell? ⟨A1, 0, none⟩ = some (.string ⟨#[65]⟩) ∧ w'.cell? ⟨A1, 1, none⟩ = some (.string ⟨#[97]⟩)) := fun w' he => by
    have := he.trans hka
    exact ⟨by rw [Lib.cell_of_heap this]; rfl, by rw [Lib.cell_of_heap this]; rfl⟩
  have KB : Hid (∀ w' : World, w'.heap[A1 + 1]? = W2.heap[A1 + 1]? → w'.cell? ⟨A1 + 1, 0, none⟩ = some (.string ⟨#[65]⟩) ∧ w'.cell? ⟨A1 + 1, 1, none⟩ = some (.string ⟨#[98]⟩)) := fun w' he => by
    have := he.trans hkb
    exact ⟨by rw [Lib.cell_of_heap this]; rfl, by rw [Lib.cell_of_heap this]; rfl⟩
  have hq1 : DirQ (fun b => b ≠ A1 ∧ b ≠ A1 + 1) N (N + 1) 0 [] w1 := by
    obtain ⟨m, G, h⟩ := hp1
    exact ⟨m, G, h, fun b hb => by have := (h.blk b hb).2; omega⟩
  obtain ⟨W4, hW4⟩ : ∃ W4, (W2.alloc (.cells #[.string ⟨#[120]⟩] 9)).alloc (.cells #[.string ⟨#[110]⟩, .slice (some ⟨W2.heap.size, 0, none⟩) 1 1] 68) = W4 := ⟨_, rfl⟩
  have hbW4 : Below W2.heap.size W2 W4 := by rw [← hW4]; exact ((Below.refl _ _).alloc (Nat.le_refl _) _).alloc (by simp) _
  have hxs := fx_is W2
  rw [hW4, hsW2] at hxs
  have hsW4 := hbW4.size
  have hq4 := (hq1.on hbW2).on hbW4
  have HP1 := hid (q_put hq4 (fun b hb => by omega) (by decide) fxb fx_fb 1 0 true _ _ fxV hxs (fx_fit _) rfl (by decide))
  rw [fn1, fc1, fp1] at HP1
  have HB4 : Hid (Below N w W4) := bel_then (bel_then hb1 (by omega) hbW2) (by omega) hbW4
  obtain ⟨b0, b1⟩ := KB.out W2 rfl
  have KF : Hid (∀ w' : World, (∀ k, k = A1 ∨ k = A1 + 1 → w'.heap[k]? = W2.heap[k]?) → ∀ w2 : World, Fr (fun b => b ≠ A1 ∧ b ≠ A1 + 1) w' w2 → W2.heap.size ≤ w'.heap.size → ∀ k, k = A1 ∨ k = A1 + 1 → w2.heap[k]? = W2.heap[k]?) := fun w' h1 w2 f hs k hk => (f.block k (by omega) (by omega)).trans (h1 k hk)
  have K4 : Hid (∀ k, k = A1 ∨ k = A1 + 1 → W4.heap[k]? = W2.heap[k]?) := fun k hk => hbW4.block k (by omega)
  rw [hsW2] at hW4
  simp only [fxb] at HP1
  clear hp1 hb1 hka hkb hq1 hxs hq4 hbW2 hbW4 HN
  go_wp2_with fail
  refine HP1.out.mono ?_
  rintro e w5 ⟨rfl, hq5, hf5, hb5⟩
  have K5 := hid (KF.out W4 K4.out w5 hf5 hsW4)
  have HB5 := hid (HB4.out.trans hb5)
  have hs5 := hf5.size
  obtain ⟨a0, a1⟩ := KA.out w5 (K5.out A1 (Or.inl rfl))
  have HP2 := hid (q_put hq5 (fun b hb => by omega) (by decide) fxa fx_fa 2 0 true _ [] [] (isx_none _) fitx_none rfl (by decide))
  rw [fn2, fc2, fp2] at HP2
  simp only [fxa] at HP2
  clear hq5 hf5 hb5 HP1 HB4 K4 b0 b1
  go_wp2_with fail
  refine HP2.out.mono ?_
  rintro e w6 ⟨rfl, hq6, hf6, hb6⟩
  have K6 := hid (KF.out w5 K5.out w6 hf6 (by omega))
  have HB6 := hid (HB5.out.trans hb6)
  have hs6 := hf6.size
  obtain ⟨b0, b1⟩ := KB.out w6 (K6.out (A1 + 1) (Or.inr rfl))
  have HP3 := hid (q_put hq6 (fun b hb => by omega) (by decide) fxb fx_fb 3 1 false _ [] [] (isx_none _) fitx_none rfl (by decide))
  rw [fn3, fc3, fp3] at HP3
  simp only [fxb] at HP3
  clear hq6 hf6 hb6 HP2 HB5 K5 a0 a1
  go_wp2_with fail
  refine HP3.out.mono ?_
  rintro e w7 ⟨rfl, hq7, hf7, hb7⟩
  have K7 := hid (KF.out w6 K6.out w7 hf7 (by omega))
  have HB7 := hid (HB6.out.trans hb7)
  have hs7 := hf7.size
  have HP4 := hid (q_put hq7 (fun b hb => by omega) (by decide) fxc fx_fc 9 0 true _ [] [] (isx_none _) fitx_none rfl (by decide))
  rw [fn4, fc4, fp4] at HP4
  simp only [fxc] at HP4
  clear hq7 hf7 hb7 HP3 HB6 K6 b0 b1
  go_wp2_with fail
  refine HP4.out.mono ?_
  rintro e w8 ⟨rfl, hq8, hf8, hb8⟩
  have K8 := hid (KF.out w7 K7.out w8 hf8 (by omega))
  have HB8 := hid (HB7.out.trans hb8)
  have hs8 := hf8.size
  have HS8 := hid hq8.s
  have hNs : N ≤ w8.heap.size := by omega
  have KBel : Hid (∀ w' : World, Below w8.heap.size w8 w' → w'.cell? ⟨A1 + 1, 0, none⟩ = some (.string ⟨#[65]⟩) ∧ w'.cell? ⟨A1 + 1, 1, none⟩ = some (.string ⟨#[98]⟩)) := fun w' hb => KB.out w' ((hb.block (A1 + 1) (by omega)).trans (K8.out (A1 + 1) (Or.inr rfl)))
  obtain ⟨b0, b1⟩ := KBel.out w8 (Below.refl _ _)
  have HAT := hid (s_at HS8.out fxb fx_fb 1)
  rw [fat] at HAT
  simp only [fxb] at HAT
  clear hq8 hf8 hb8 HP4 HB7 K7 K8 KA KB KF
  go_wp2_with fail
  refine HAT.out.mono ?_
  rintro e w9 ⟨x9, rfl, hx9, _, hb9⟩
  have hv9 := vparts hx9
  obtain ⟨xn9, xs9, xt9, xl9, xp9, xc9, xo9⟩ := x9
  have e9 : xn9 = 1 := hv9.1
  clear hv9
  subst e9
  obtain ⟨V9, hV9⟩ : ∃ V, w9.alloc (.cells #[.int .i64 1, .int .u64 xs9, .int .i64 xt9, .bool xl9, .slice xp9 xo9.length xc9] 56) = V := ⟨_, rfl⟩
  have HBV9 : Hid (Below w8.heap.size w8 V9) := by rw [← hV9]; exact ((Below.refl w8.heap.size w8).trans (hb9.mono (Nat.le_refl _))).alloc (by have := hb9.size; have := (Below.refl w8.heap.size w8).size; omega) _
  obtain ⟨A9, hA9⟩ : ∃ A, w9.heap.size = A := ⟨_, rfl⟩
  have HV9 : Hid (VerAt V9 A9 ⟨1, xs9, xt9, xl9, xp9, xc9, xo9⟩) := by show _ = _; rw [← hV9, ← hA9]; exact heap_alloc_new w9 _
  obtain ⟨b0, b1⟩ := KBel.out V9 HBV9.out
  have HLA := hid (s_last (HS8.out.on HBV9.out) fxb fx_fb)
  rw [flast] at HLA
  simp only [fxb] at HLA
  clear hx9 hb9 HAT
  simp only [encVx, Vx.sl]
  go_wp2_with fail
  refine HLA.out.mono ?_
  rintro e w10 ⟨x10, rfl, hx10, _, hb10⟩
  have hv10 := vparts hx10
  obtain ⟨xn10, xs10, xt10, xl10, xp10, xc10, xo10⟩ := x10
  have e10 : xn10 = 2 := hv10.1
  clear hv10
  subst e10
  obtain ⟨V10, hV10⟩ : ∃ V, w10.alloc (.cells #[.int .i64 2, .int .u64 xs10, .int .i64 xt10, .bool xl10, .slice xp10 xo10.length xc10] 56) = V := ⟨_, rfl⟩
  have HBV10 : Hid (Below w8.heap.size w8 V10) := by rw [← hV10]; exact (HBV9.out.trans (hb10.mono HBV9.out.size)).alloc (by have := hb10.size; have := HBV9.out.size; omega) _
  obtain ⟨A10, hA10⟩ : ∃ A, w10.heap.size = A := ⟨_, rfl⟩
  have HV10 : Hid (VerAt V10 A10 ⟨2, xs10, xt10, xl10, xp10, xc10, xo10⟩) := by show _ = _; rw [← hV10, ← hA10]; exact heap_alloc_new w10 _
  have HV9 := hid (HV9.out.on (show Below V9.heap.size V9 V10 by rw [← hV10]; exact hb10.alloc hb10.size _))
  obtain ⟨b0, b1⟩ := KBel.out V10 HBV10.out
  have HNU := hid (s_number (HS8.out.on HBV10.out) fxb fx_fb 2 (by decide))
  rw [fnum] at HNU
  simp only [fxb] at HNU
  clear hx10 hb10 HLA HBV9
  simp only [encVx, Vx.sl]
  go_wp2_with fail
  refine HNU.out.mono ?_
  rintro e w11 ⟨x11, rfl, hx11, _, hb11⟩
  have hv11 := vparts hx11
  obtain ⟨xn11, xs11, xt11, xl11, xp11, xc11, xo11⟩ := x11
  have e11 : xs11 = 3 := hv11.2
  clear hv11
  subst e11
  obtain ⟨V11, hV11⟩ : ∃ V, w11.alloc (.cells #[.int .i64 xn11, .int .u64 3, .int .i64 xt11, .bool xl11, .slice xp11 xo11.length xc11] 56) = V := ⟨_, rfl⟩
  have HBV11 : Hid (Below w8.heap.size w8 V11) := by rw [← hV11]; exact (HBV10.out.trans (hb11.mono HBV10.out.size)).alloc (by have := hb11.size; have := HBV10.out.size; omega) _
  obtain ⟨A11, hA11⟩ : ∃ A, w11.heap.size = A := ⟨_, rfl⟩
  have HV11 : Hid (VerAt V11 A11 ⟨xn11, 3, xt11, xl11, xp11, xc11, xo11⟩) := by show _ = _; rw [← hV11, ← hA11]; exact heap_alloc_new w11 _
  have hbv : Below V10.heap.size V10 V11 := by rw [← hV11]; exact hb11.alloc hb11.size _
  have HV9 := hid (HV9.out.on hbv)
  have HV10 := hid (HV10.out.on hbv)
  obtain ⟨b0, b1⟩ := KBel.out V11 HBV11.out
  have HFI := hid (s_first (HS8.out.on HBV11.out) (by decide) fxb fx_fb)
  rw [ffirst] at HFI
  simp only [fxb] at HFI
  clear hx11 hb11 HNU HBV10 hbv
  simp only [encVx, Vx.sl]
  go_wp2_with fail
  refine HFI.out.mono ?_
  rintro e w12 ⟨x12, rfl, hx12, _, hb12⟩
  have hv12 := vparts hx12
  obtain ⟨xn12, xs12, xt12, xl12, xp12, xc12, xo12⟩ := x12
  have e12 : xs12 = 1 := hv12.2
  clear hv12
  subst e12
  obtain ⟨V12, hV12⟩ : ∃ V, w12.alloc (.cells #[.int .i64 xn12, .int .u64 1, .int .i64 xt12, .bool xl12, .slice xp12 xo12.length xc12] 56) = V := ⟨_, rfl⟩
  have HBV12 : Hid (Below w8.heap.size w8 V12) := by rw [← hV12]; exact (HBV11.out.trans (hb12.mono HBV11.out.size)).alloc (by have := hb12.size; have := HBV11.out.size; omega) _
  obtain ⟨A12, hA12⟩ : ∃ A, w12.heap.size = A := ⟨_, rfl⟩
  have HV12 : Hid (VerAt V12 A12 ⟨xn12, 1, xt12, xl12, xp12, xc12, xo12⟩) := by show _ = _; rw [← hV12, ← hA12]; exact heap_alloc_new w12 _
  have hbv : Below V11.heap.size V11 V12 := by rw [← hV12]; exact hb12.alloc hb12.size _
  have HV9 := hid (HV9.out.on hbv)
  have HV10 := hid (HV10.out.on hbv)
  have HV11 := hid (HV11.out.on hbv)
  obtain ⟨b0, b1⟩ := KBel.out V12 HBV12.out
  have HSI := hid (s_since (HS8.out.on HBV12.out) fxb fx_fb 1)
  rw [fsince] at HSI
  simp only [fxb] at HSI
  have k9 := HV9.out.cells.1
  have k10 := HV10.out.cells.1
  have k11 := HV11.out.cells.2.1
  have k12 := HV12.out.cells.2.1
  rw [Nat.zero_add] at k11 k12
  clear hx12 hb12 HFI HBV11 hbv
  simp only [encVx, Vx.sl]
  go_wp2_with fail
  refine HSI.out.mono ?_
  intro e w13 hp13
  obtain ⟨u13, o13, rfl, ht13, hb13⟩ := all_told hp13
  have hl13 := ht13.len
  obtain ⟨p13, c13, rfl⟩ := Kind.own_shape ht13.own
  rw [hl13, show ([fv2] : List Vr).length = 1 from rfl]
  have HBV13 : Hid (Below w8.heap.size w8 w13) := bel_then HBV12.out HBV12.out.size hb13
  have HKE := hid (s_keys (HS8.out.on HBV13.out) (by decide) fxT)
  simp only [fxT] at HKE
  clear hl13 ht13 hp13 hb13 HSI HBV12 k9 k10 k11 k12 HV9 HV10 HV11 HV12 b0 b1 hV9 hV10 hV11 hV12 hA9 hA10 hA11 hA12
  go_wp2_with fail
  refine HKE.out.mono ?_
  rintro e w14 ⟨u14, rfl, ho14, hb14⟩
  have hl14 := fkeys
  simp only [fxT] at hl14
  obtain ⟨p14, c14, rfl⟩ := Kind.own_shape ho14
  rw [hl14]
  have HBV14 : Hid (Below w8.heap.size w8 w14) := bel_then HBV13.out HBV13.out.size hb14
  have HSC := hid (s_scan (HS8.out.on HBV14.out) (by decide) fxT 2 none 0 [] (KM.is_nil _) ⟨Nat.zero_le _, fun x hx => by simp at hx⟩)
  simp only [fxT, List.length_nil] at HSC
  clear hl14 ho14 hb14 HKE HBV13
  go_wp2_with fail
  refine HSC.out.mono ?_
  rintro e w15 ⟨u15, o15, rfl, ho15, _, hm15, hb15⟩
  have hl15 : o15.length = 2 := by
    have h1 := congrArg List.length hm15
    have h2 := fscan
    simp only [fxT] at h2
    rw [List.length_map, h2] at h1
    exact h1
  obtain ⟨p15, c15, rfl⟩ := Kind.own_shape ho15
  rw [hl15]
  have HBV15 : Hid (Below w8.heap.size w8 w15) := bel_then HBV14.out HBV14.out.size hb15
  have HLO := hid (s_log (HS8.out.on HBV15.out) (by decide) fxT 1)
  simp only [fxT] at HLO
  clear hl15 ho15 hm15 hb15 HSC HBV14
  go_wp2_with fail
  refine HLO.out.mono ?_
  rintro e w16 ⟨r16, ⟨u16, o16, rfl, ho16, _, hm16, hb16⟩, hp16, _⟩
  have hl16 : o16.length = 2 := by
    have h1 := congrArg List.length hm16
    have h2 := flog
    simp only [fxT] at h2
    rw [List.length_map, hp16.length_eq, h2] at h1
    exact h1
  obtain ⟨p16, c16, rfl⟩ := Kind.own_shape ho16
  rw [hl16]
  have HBV16 : Hid (Below w8.heap.size w8 w16) := bel_then HBV15.out HBV15.out.size hb16
  have HCO := hid (s_count (HS8.out.on HBV16.out) (by decide))
  rw [fcount] at HCO
  clear hl16 ho16 hm16 hp16 hb16 HLO HBV15
  go_wp2_with fail
  refine HCO.out.mono ?_
  rintro e w17 ⟨rfl, hb17⟩
  have HBV17 : Hid (Below w8.heap.size w8 w17) := bel_then HBV16.out HBV16.out.size hb17
  have HWA := hid (s_walked (HS8.out.on HBV17.out) (by decide) 2)
  clear hb17 HCO HBV16
  go_wp2_with fail
  refine HWA.out.mono ?_
  rintro e w18 ⟨u18, o18, rfl, ho18, _, hm18, hb18⟩
  have hl18 : o18.length = 2 := by
    have h1 := congrArg List.length hm18
    rw [List.length_map, fwl] at h1
    exact h1
  obtain ⟨p18, c18, rfl⟩ := Kind.own_shape ho18
  rw [hl18]
  have HBV18 : Hid (Below w8.heap.size w8 w18) := bel_then HBV17.out HBV17.out.size hb18
  have HPR := hid (s_prune (HS8.out.on HBV18.out) (by decide) 3)
  rw [fgone] at HPR
  have HBN := hid (HB8.out.trans (HBV18.out.mono hNs))
  clear hl18 ho18 hm18 hb18 HWA HBV17
  go_wp2_with fail
  refine HPR.out.mono ?_
  rintro e w19 ⟨rfl, _, hb19⟩
  have HB19 := hid (HBN.out.trans hb19)
  clear hb19 HPR HBN
  go_wp2_with fail
  go_ret
  exact ⟨rfl, HB19.out⟩

end Go.Proofs.YtmfhbkickaofcaaGreat
