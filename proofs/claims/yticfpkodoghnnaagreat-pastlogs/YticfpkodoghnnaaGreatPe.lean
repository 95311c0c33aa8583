/-
  Texts of this claim, one behind the other: Dsc Dmk Dwk Dcy Dwi Dwd Sh2 Dea Dlg Ls0 Rmay Cr3 Cfx Cs2 Cyt Zless Lr0 Lr1 Lr2 Lr3 Lr4 Lr5.
-/
import Derived.Test.YticfpkodoghnnaaGreatPd
import Derived.Shelf.SlGeneric
import Derived.Shelf.SlicesE.Clone
import Derived.Shelf.SlicesQ.IndexFunc
import Derived.Shelf.SlSortCmp.InsertionK
import Derived.Ground.NamesProg
import Derived.Shelf.Lays
import Derived.Ground.SlsfProg
import Derived.Shelf.SlLaysF0
import Derived.Test.YticfpkodoghnnaaGreatProg
import Derived.Test.YticfpkodoghnnaaGreatPa
import Derived.Test.YticfpkodoghnnaaGreatPc
import Derived.Test.YticfpkodoghnnaaGreatPb
import Derived.Deep.CutRange
/-
  Scan of a directory (stage 7).
-/
namespace Go.Proofs.YticfpkodoghnnaaGreat
open Go.RowKit
attribute [local go_sem] Oper.semAt_some

theorem Tryz.infoFd : (Tryz.prog.info? 70).map (fun i => (i.zero, i.size, i.bytes)) = some (some (.agg #[.string ⟨#[]⟩, .string ⟨#[]⟩, .int .i64 0, .int .u64 0, .int .i64 0, .bool false, .slice none 0 0]), 7, 88) := by kernel_rfl

theorem dir_len {D : List RowD} (h : OkD D) : D.length ≤ countD D := by
  induction D with
  | nil => exact Nat.zero_le _
  | cons r d ih =>
    have h1 := ih h.tail
    have h2 : r.2.length ≠ 0 := fun e => (h.ok r List.mem_cons_self).2 (List.length_eq_zero_iff.1 e)
    simp only [countD, List.map_cons, List.sum_cons, List.length_cons] at h1 ⊢
    omega

theorem keysD_len {D : List RowD} (h : OkD D) (typ : ByteArray) : (keysD D typ).length ≤ countD D := by
  have h1 : (keysD D typ).length ≤ (D.map Prod.fst).length := List.length_filter_le _ _
  rw [List.length_map] at h1
  have := dir_len h
  omega

theorem keysD_fit {n0 : Nat} {W : World} {g m n : Nat} {G : Ky → Cm} {D : List RowD} (h : DirM n0 W g m n G D) {ks : List Ky} (hk : ∀ k ∈ ks, k ∈ D.map Prod.fst) : ∀ k ∈ ks, FitK k := fun k hm => key_fit (h.key k ((there_iff h.ok k).1 (hk k hm)))

theorem filterMap_same {α β : Type} {f g : α → Option β} : ∀ {l : List α}, (∀ x ∈ l, f x = g x) → l.filterMap f = l.filterMap g
  | [], _ => rfl
  | x :: l, h => by
    rw [List.filterMap_cons, List.filterMap_cons, h x List.mem_cons_self, filterMap_same fun y hy => h y (List.mem_cons_of_mem _ hy)]

/-- The live ones of all keys are what a walk gives; those of a type, what it gives of it. -/
theorem live_walk {D : List RowD} (h : OkD D) (t : Int) : liveL D t (D.map Prod.fst) = walkD D t := by
  unfold liveL walkD
  rw [List.filterMap_map]
  refine filterMap_same fun r hr => ?_
  show liveAt t (r.1, ofD D r.1) = liveAt t r
  rw [ofD_mem h hr]

theorem live_keep {D : List RowD} {t : Int} {k : Ky} {x : Fnd} (h : liveAt t (k, ofD D k) = some x) : x.1 = k := by
  unfold liveAt at h
  cases ha : atV (k, ofD D k).2 t with
  | none => rw [ha] at h; cases h
  | some v =>
    rw [ha] at h
    simp only [Option.bind_some] at h
    split at h
    · injection h with h; rw [← h]
    · cases h

theorem live_filter (D : List RowD) (t : Int) (q : Ky → Bool) : ∀ ks : List Ky, liveL D t (ks.filter q) = (liveL D t ks).filter fun x => q x.1
  | [] => rfl
  | k :: ks => by
    have ih := live_filter D t q ks
    unfold liveL at ih ⊢
    rw [List.filter_cons, List.filterMap_cons]
    cases ha : liveAt t (k, ofD D k) with
    | none =>
      split
      · rw [List.filterMap_cons, ha]; exact ih
      · exact ih
    | some x =>
      have hk := live_keep ha
      simp only [List.filter_cons, hk]
      split
      · rw [List.filterMap_cons, ha]
        simp only [ih]
      · exact ih

theorem live_type {D : List RowD} (h : OkD D) (t : Int) (typ : ByteArray) : liveL D t (keysD D typ) = (walkD D t).filter fun x => decide (x.1.1 = typ) := by
  unfold keysD
  rw [live_filter, live_walk h]

theorem scan_eq {D : List RowD} (h : OkD D) (t : Int) (typ : ByteArray) (P : List Fld → Bool) : (liveL D t (keysD D typ)).filter (fun x => P x.2.val) = scanD D typ t P := by
  rw [live_type h, List.filter_filter]
  unfold scanD
  congr 1
  funext x
  exact Bool.and_comm _ _

/-- A row of keys, for the iterator. -/
theorem row_keys {B : Nat} {w : World} {u : Value} {keys : List Ky} (h : KK.Own B w u keys) : ∃ p cap, u = .slice p keys.length cap ∧ ∀ (w4 : World) (Bf : Nat), Below w.heap.size w w4 → Bf < B → keys = [] ∨ ∃ b off, p = some ⟨b, off, none⟩ ∧ KK.At w4 b off keys ∧ b ≠ Bf := by
  rcases h.2 with ⟨rfl, hz⟩ | ⟨g, cap, cur, rfl, _⟩
  · obtain rfl := List.length_eq_zero_iff.1 hz
    exact ⟨none, 0, rfl, fun _ _ _ _ => Or.inl rfl⟩
  · refine ⟨_, cap, rfl, fun w4 Bf hb hB => Or.inr ⟨g, 0, rfl, Kind.at_kept (Kind.own_at h) hb, ?_⟩⟩
    have := (Kind.own_ge h).1
    omega

/-- In a round: the boxes of the two loop variables. -/
def AxX (Bf : Nat) (w : World) (sel : Fnd → Bool) (N : Nat) (A : Nat → Nat → Kx → Act) (pre : List Kx) (x : Kx) (a' : Act) (W : World) : Prop :=
  ∃ Bx By v fs, a' = A Bx By x ∧ W.heap[Bx]? = some (.cells #[.string x.1.1, .string x.1.2] 31 (0, 0)) ∧ VerAt W By x.2 ∧ FdSt Bf w sel pre v fs W ∧ GdX w.heap.size N pre x W

theorem AxX.own_from (Bf : Nat) (w : World) (sel : Fnd → Bool) (N : Nat) (A : Nat → Nat → Kx → Act) (pre : List Kx) (x : Kx) (a' : Act) : OwnFrom w.heap.size (fun (_ : Unit) W => AxX Bf w sel N A pre x a' W) := by
  rintro _ W W' row ⟨Bx, By, v, fs, h1, h2, h3, h4, h5⟩ hg hr
  exact ⟨Bx, By, v, fs, h1, cells_nc h2 hg fun r e => (hr r e).2, cells_nc h3 hg fun r e => (hr r e).2, h4.nc hg hr, h5.nc hg fun r e => (hr r e).2⟩

/-- The boxes are laid. -/
theorem AxX.lay {Bf : Nat} {w : World} {sel : Fnd → Bool} {N : Nat} {A : Nat → Nat → Kx → Act} {pre : List Kx} {x : Kx} {W : World} {v : Value} {fs : List Fd} (h : FdSt Bf w sel pre v fs W) (hg : GdX w.heap.size N pre x W) :
    KeepsFrom w.heap.size W ((W.alloc (.cells #[.string x.1.1, .string x.1.2] 31)).alloc (.cells (encVx x.2).toArray 39)) ∧ KpX Bf w.heap.size W ((W.alloc (.cells #[.string x.1.1, .string x.1.2] 31)).alloc (.cells (encVx x.2).toArray 39)) ∧
      AxX Bf w sel N A pre x (A W.heap.size (W.heap.size + 1) x) ((W.alloc (.cells #[.string x.1.1, .string x.1.2] 31)).alloc (.cells (encVx x.2).toArray 39)) := by
  have hb : Below W.heap.size W ((W.alloc (.cells #[.string x.1.1, .string x.1.2] 31)).alloc (.cells (encVx x.2).toArray 39)) := ((Below.refl _ _).alloc (Nat.le_refl _) _).alloc (by simp) _
  refine ⟨keeps_of (P := fun _ => False) (Fr.of_below hb) fun b _ e => e.elim, Fr.of_below hb, _, _, v, fs, rfl, ?_, ?_, h.on hb, hg.nc (grown_of hb) fun r e => by cases e⟩
  · rw [Below.heap_alloc _ _ _ (by simp)]
    exact heap_alloc_new W _
  · have := heap_alloc_new (W.alloc (.cells #[.string x.1.1, .string x.1.2] 31)) (.cells (encVx x.2).toArray 39)
    simpa [VerAt] using this

set_option maxHeartbeats 4000000 in
set_option maxRecDepth 100000 in
theorem dscan_any {n0 : Nat} {W0 : World} {g m n : Nat} {G : Ky → Cm} {D : List RowD} (h : DirM n0 W0 g m n G D) (hn : n ≤ 1760000000000) (typ : ByteArray) (t : Int) (pa : Option Addr) (pc : Nat) (pt : List Tm) (hp : KM.Is W0 (.slice pa pt.length pc) pt) (hpf : FitM pt) :
    Calls Tryz.prog 37 #[.pointer (some ⟨g, 0, none⟩), .string typ, .int .u64 t, .slice pa pt.length pc] W0 fun e w' => FdPost W0 (scanD D typ t (matchM pt)) e w' := by
  obtain ⟨N, hN⟩ : ∃ N, W0.heap.size = N := ⟨_, rfl⟩
  obtain ⟨W2, hW2⟩ : ∃ W2, (W0.alloc (.cells #[.slice pa pt.length pc] 32)).alloc (.cells #[.slice none 0 0] 46) = W2 := ⟨_, rfl⟩
  have hb2 : Below N W0 W2 := by rw [← hW2, ← hN]; exact ((Below.refl _ _).alloc (Nat.le_refl _) _).alloc (by simp) _
  have hs2 : W2.heap.size = N + 2 := by rw [← hW2, ← hN]; simp
  have hpb : W2.heap[N]? = some (.cells #[.slice pa pt.length pc] 32 (0, 0)) := by
    rw [← hW2, ← hN, Below.heap_alloc _ _ _ (by simp)]; exact heap_alloc_new W0 _
  have hfb : W2.heap[N + 1]? = some (.cells #[.slice none 0 0] 46 (0, 0)) := by
    rw [← hW2, ← hN]; have := heap_alloc_new (W0.alloc (.cells #[.slice pa pt.length pc] 32)) (.cells #[.slice none 0 0] 46); simpa using this
  have hD2 : DirM n0 W2 g m n G D := h.on (by rw [hN]; exact hb2)
  have HKE := hid (dkeys_any hD2 (by omega) typ)
  have hkl := keysD_len h.ok typ
  have hfew := h.few
  have HFIT := hid (keysD_fit h (ks := keysD D typ) fun k hk => (List.mem_filter.1 hk).1)
  have HEQ := hid (scan_eq h.ok t typ (matchM pt))
  have HBLK : Hid (∀ b, BlkD g m G D b → b < N) := fun b hb => by rw [← hN]; exact (h.blk b hb).2
  have HD2 := hid hD2
  have HB2 := hid hb2
  have HP := hid hp
  have HPF := hid hpf
  obtain ⟨keys, hkeys⟩ : ∃ keys, keysD D typ = keys := ⟨_, rfl⟩
  rw [hkeys] at HKE HFIT HEQ hkl
  clear h hD2 hb2 hp hpf hkeys
  refine (callsIn_wide (n := 3)).1 ?_
  refine callsIn_of_wp_marks Tryz.func37 rfl trivial ?_ rfl
  simp only [Tryz.ntmps37, List.size_toArray, List.length_cons, List.length_nil, Nat.reduceAdd, Nat.reduceSub, Array.replicate_succ, Array.replicate_zero, List.push_toArray, List.append_toArray, List.nil_append, List.cons_append]
  gi_wp2
  refine ⟨trivial, ?_⟩
  gi_at_call 64
  refine (callsIn_wide.2 HKE.out).mono ?_
  rintro e w3 ⟨u, rfl, ho3, hb3⟩
  have hs3 := hb3.size
  obtain ⟨kp, kc, rfl, hrow⟩ := row_keys ho3
  have HROW := hid hrow
  have HB3 := hid hb3
  clear hrow ho3 hb3 HKE
  gi_wp2
  refine ⟨trivial, ?_⟩
  gi_at_call 63
  refine (callsIn_wide.2 (dlive_any w3 g kp keys.length kc t)).mono ?_
  rintro e w4 ⟨rfl, hw4⟩
  obtain ⟨M, hM⟩ : ∃ M, w3.heap.size = M := ⟨_, rfl⟩
  have hb4 : Below M w3 w4 := by rw [hw4, ← hM]; exact (((Below.refl _ _).alloc (Nat.le_refl _) _).alloc (by simp) _).alloc (by simp; omega) _
  have hs4 : w4.heap.size = M + 3 := by rw [hw4, ← hM]; simp
  have x0 : w4.heap[M]? = some (.cells #[.pointer (some ⟨g, 0, none⟩)] 25 (0, 0)) := by
    rw [hw4, ← hM, Below.heap_alloc _ _ _ (by simp; omega), Below.heap_alloc _ _ _ (by simp)]; exact heap_alloc_new w3 _
  have x1 : w4.heap[M + 1]? = some (.cells #[.slice kp keys.length kc] 118 (0, 0)) := by
    rw [hw4, ← hM, Below.heap_alloc _ _ _ (by simp)]; have := heap_alloc_new (w3.alloc (.cells #[.pointer (some ⟨g, 0, none⟩)] 25)) (.cells #[.slice kp keys.length kc] 118); simpa using this
  have x2 : w4.heap[M + 2]? = some (.cells #[.int .u64 t] 29 (0, 0)) := by
    rw [hw4, ← hM]; have := heap_alloc_new ((w3.alloc (.cells #[.pointer (some ⟨g, 0, none⟩)] 25)).alloc (.cells #[.slice kp keys.length kc] 118)) (.cells #[.int .u64 t] 29); simpa using this
  have hb24 : Below W2.heap.size W2 w4 := bel_then HB3.out hs3 (by rw [hM]; exact hb4)
  have hb04 : Below N W0 w4 := HB2.out.trans (hb24.mono (by omega))
  have HLV : Hid (LvAt n0 w4 g m n G D keys t kp kc M (M + 1) (M + 2) (N + 1)) :=
    ⟨HD2.out.on hb24, x0, x1, x2, HROW.out w4 (N + 1) (by rw [hM]; exact hb4) (by omega), HFIT.out, by omega, by omega, by omega, by omega, fun hb => by have := HBLK.out _ hb; omega⟩
  have HF0 : Hid (FdSt (N + 1) w4 (fun x => matchM pt x.2.val) [] (.slice none 0 0) [] w4) :=
    ⟨(hb24.block (N + 1) (by omega)).trans hfb, KFd.own_nil _ _, fun f hf => by simp at hf, rfl, Nat.le_refl _, Fr.refl _ _, by omega⟩
  have HPB := hid ((hb24.block N (by omega)).trans hpb)
  have HB04 := hid hb04
  clear hw4 hb4 x0 x1 x2 hb24 hb04 hpb hfb HB3 HROW HFIT HD2
  have hen := enters_of (P := Tryz.prog) Tryz.func89 (by kernel_rfl) rfl
  rw [hM]
  gi_wp2
  refine wpIn_rangeFunc_mem (w := w4) rfl (by decide) (gf := 89) (lb := #[.pointer (some ⟨M + 1, 0, none⟩), .pointer (some ⟨M, 0, none⟩), .pointer (some ⟨M + 2, 0, none⟩)]) rfl trivial hen
    (live_seq 2 (by decide) HLV.out) kpX_trans (fun W l o' hl _ => kpX_put W l o' hl) (fun _ => rfl) (fun pre W => ∃ v fs, FdSt (N + 1) w4 (fun x => matchM pt x.2.val) pre v fs W) (fun _ _ _ => False) (FdSt.own_from _ _ _) (fun _ _ _ _ _ h _ _ => h.elim) ⟨_, _, HF0.out⟩
    (AxX (N + 1) w4 (fun x => matchM pt x.2.val) keys.length (fun Bx By x => { tmps := #[.pointer (some ⟨g, 0, none⟩), .string typ, .int .u64 t, .slice pa pt.length pc, undef, undef, undef, .pointer (some ⟨N, 0, none⟩), .slice none 0 0, .pointer (some ⟨N + 1, 0, none⟩), .pointer (some ⟨Bx, 0, none⟩), .pointer (some ⟨By, 0, none⟩), .pointer (some ⟨g, 0, none⟩), .pointer (some ⟨g, 0, none⟩), .string typ, .slice kp keys.length kc, .int .u64 t,
      .func (.func 89) #[] #[.pointer (some ⟨M + 1, 0, none⟩), .pointer (some ⟨M, 0, none⟩), .pointer (some ⟨M + 2, 0, none⟩)], .agg #[.string x.1.1, .string x.1.2], .agg (encVx x.2).toArray, undef, undef, undef, undef, undef, undef, undef, undef, undef, undef, undef], defers := [] }))
    (fun pre x a' => AxX.own_from _ _ _ _ _ pre x a') ?assign ?body ?done ?stop
  case assign =>
    rintro l pre ⟨⟨ka, kb⟩, x⟩ W K hlt ⟨v, fs, hF⟩ hG hK
    obtain ⟨k1, k2, k3⟩ := AxX.lay (A := fun Bx By (x : Kx) => { tmps := #[.pointer (some ⟨g, 0, none⟩), .string typ, .int .u64 t, .slice pa pt.length pc, undef, undef, undef, .pointer (some ⟨N, 0, none⟩), .slice none 0 0, .pointer (some ⟨N + 1, 0, none⟩), .pointer (some ⟨Bx, 0, none⟩), .pointer (some ⟨By, 0, none⟩), .pointer (some ⟨g, 0, none⟩), .pointer (some ⟨g, 0, none⟩), .string typ, .slice kp keys.length kc, .int .u64 t,
      .func (.func 89) #[] #[.pointer (some ⟨M + 1, 0, none⟩), .pointer (some ⟨M, 0, none⟩), .pointer (some ⟨M + 2, 0, none⟩)], .agg #[.string x.1.1, .string x.1.2], .agg (encVx x.2).toArray, undef, undef, undef, undef, undef, undef, undef, undef, undef, undef, undef], defers := [] }) hF hG
    have HK := hid (hK _ _ k1 k2 k3)
    obtain ⟨xn, xs, xt, xl, xp, xc, xo⟩ := x
    simp only [encVx, Vx.sl, encKx] at HK ⊢
    clear hK k1 k2 k3 hF hG
    gi_wp2
    exact HK.out
  case body =>
    rintro l pre ⟨⟨ka, kb⟩, x⟩ a' W hlt ⟨Bx, By, v, fs, rfl, hbx, hby, hF, hG⟩
    obtain ⟨i0, hi0, hz0, hz1, hz2⟩ := info_parts Tryz.infoFd
    have hfr := hF.fr
    have hsW := hfr.size
    have hbW : Below N W0 W := HB04.out.trans (hfr.below (N := N) (by omega) fun k hk => by omega)
    have hpb : W.heap[N]? = some (.cells #[.slice pa pt.length pc] 32 (0, 0)) := (hfr.block N (by omega) (by omega)).trans HPB.out
    obtain ⟨hfit, hcopy⟩ := may_fit hG.2.1
    have HM := hid (pmatch_any (.slice pa pt.length pc) x.sl pt x.o W (Kind.is_kept HP.out (by rw [hN]; exact hbW)) HPF.out hG.1.1.is hfit hcopy.2)
    have HSEL : Hid (matchM pt (fndX ((ka, kb), x)).2.val = matchM pt (x.o.map Fx.fld)) := rfl
    have hlen := hF.len
    have hplen := hG.2.2.1
    obtain ⟨vp, vc, rfl⟩ := Kind.own_shape hF.own
    have c0 : W.cell? ⟨N, 0, none⟩ = some (.slice pa pt.length pc) := by rw [Lib.cell_of_heap hpb]; rfl
    obtain ⟨y0, y1, y2, y3, y4⟩ := VerAt.cells hby
    have KB : Hid (∀ w', Below W.heap.size W w' → w'.cell? ⟨N + 1, 0, none⟩ = some (.slice vp fs.length vc) ∧ w'.frozen? ⟨N + 1, 0, none⟩ = false ∧ w'.cell? ⟨Bx, 0, none⟩ = some (.string ka) ∧ w'.cell? ⟨Bx, 1, none⟩ = some (.string kb) ∧ VerAt w' By x) := fun w' hb => by
      have h1 := (hb.block (N + 1) (by omega)).trans hF.box
      have h2 := (hb.block Bx (Array.getElem?_eq_some_iff.1 hbx).1).trans hbx
      exact ⟨by rw [Lib.cell_of_heap h1]; rfl, Lib.frozen_of_heap h1 0, by rw [Lib.cell_of_heap h2]; rfl, by rw [Lib.cell_of_heap h2]; rfl, (hb.block By (Array.getElem?_eq_some_iff.1 hby).1).trans hby⟩
    have HF := hid hF
    have HG := hid hG
    have HI := hid hi0
    obtain ⟨bm, hbm⟩ : ∃ bm, matchM pt (x.o.map Fx.fld) = bm := ⟨_, rfl⟩
    rw [hbm] at HM HSEL
    clear hfr hbW hpb hfit hcopy hF hG hbx hi0 hbm
    obtain ⟨xn, xs, xt, xl, xp, xc, xo⟩ := x
    simp only [encVx, Vx.sl] at *
    clear hby
    gi_wp2
    refine ⟨trivial, ?_⟩
    gi_at_call 65
    refine (CallsIn.inRound l (callsIn_wide.2 HM.out)).mono ?_
    rintro e W5 ⟨rfl, hb5⟩
    have hs5 := hb5.size
    obtain ⟨z0, z1, z2, z3, z4⟩ := KB.out W5 hb5
    obtain ⟨q0, q1, q2, q3, q4⟩ := z4.cells
    have HB5 := hid hb5
    clear hb5 z4 y0 y1 y2 y3 y4 c0
    cases bm with
    | false =>
      gi_wp2
      obtain ⟨r1, r2, r3⟩ := fd_pass (x := ((ka, kb), ⟨xn, xs, xt, xl, xp, xc, xo⟩)) HF.out HB5.out HSEL.out
      exact ⟨r1, r2, _, _, r3⟩
    | true =>
      have HO5 : Hid (KFd.Own w4.heap.size W5 (.slice vp fs.length vc) fs) := Kind.own_on HF.out.own HB5.out
      have KB6 : Hid (∀ o (w6 : World), (W5.alloc o).grownBy w6 (Value.slice vp fs.length vc).ownBlock → w6.cell? ⟨N + 1, 0, none⟩ = some (.slice vp fs.length vc) ∧ w6.frozen? ⟨N + 1, 0, none⟩ = false) := fun o w6 hg => by
        have h1 : w6.heap[N + 1]? = some (.cells #[.slice vp fs.length vc] 46 (0, 0)) := (hg.block (N + 1) (by simp; omega) fun e => by have := (World.ownsRow.lt HO5.out _ e.symm).1; omega).trans ((Below.heap_alloc _ _ _ (by omega)).trans ((HB5.out.block (N + 1) (by omega)).trans HF.out.box))
        exact ⟨by rw [Lib.cell_of_heap h1]; rfl, Lib.frozen_of_heap h1 0⟩
      gi_wp2_with (first
        | (gi_at_builtin; refine wpListIn_append_own_wide _ rfl _ _ 46 rfl w4.heap.size 70 i0 (.agg #[.string ⟨#[]⟩, .string ⟨#[]⟩, .int .i64 0, .int .u64 0, .int .i64 0, .bool false, .slice none 0 0]) 7 88 Tryz.underlying46 HI.out hz0 hz1 hz2 rfl (by decide) _ _ _ rfl (World.ownsRow.alloc HO5.out _) _ 1 1 [.string ka, .string kb, .int .i64 xn, .int .u64 xs, .int .i64 xt, .bool xl, .slice xp xo.length xc] rfl rfl (fun j u hj => KFd.newsN W5 ⟨ka, kb, ⟨xn, xs, xt, xl, xp, xc, xo⟩⟩ _ (by simp) j u hj) (by intro u hu; simp at hu; rcases hu with rfl | rfl | rfl | rfl | rfl | rfl | rfl <;> rfl) (by unfold maxLen; omega) (by omega) (by simp; omega) ?_; intro v6 w6 hown6 hg6 hnil6; obtain ⟨g6, c6, rfl⟩ := ownsRow_succ hown6; obtain ⟨t0, t1⟩ := KB6.out _ _ hg6; have HO6 := hid hown6; have HG6 := hid hg6; clear hown6 hg6 hnil6))
      obtain ⟨r1, r2, r3⟩ := fd_push (x := ((ka, kb), ⟨xn, xs, xt, xl, xp, xc, xo⟩)) HF.out HG.out (bel_then HB5.out hs5 ((Below.refl _ W5).alloc (Nat.le_refl _) _)) HG6.out (Kind.own_snoc HO6.out rfl rfl) HSEL.out
      exact ⟨r1, r2, _, _, r3⟩
  case done =>
    rintro xs W hS ⟨v, fs, hF⟩ hK
    obtain ⟨vp, vc, rfl⟩ := Kind.own_shape hF.own
    have c0 : W.cell? ⟨N + 1, 0, none⟩ = some (.slice vp fs.length vc) := by rw [Lib.cell_of_heap hF.box]; rfl
    have hgp : W.grownBy (W.putObj w4.heap.size (.deferred none)) (some w4.heap.size) := grownBy_putObj' W _ _
    have hFp := hF.nc hgp fun r e => by injection e with e; rw [← e]; exact ⟨Nat.le_refl _, _, hK, rfl⟩
    have hb0 : Below N W0 (W.putObj w4.heap.size (.deferred none)) := HB04.out.trans (hFp.fr.below (N := N) (by omega) fun k hk => by omega)
    have HP : Hid (FdPost W0 (scanD D typ t (matchM pt)) (.returned (.slice vp fs.length vc)) (W.putObj w4.heap.size (.deferred none))) := by
      refine ⟨_, fs, rfl, ?_, fun f hf => ⟨?_, (hFp.val f hf).2⟩, ?_, by rw [hN]; exact hb0⟩
      · exact Kind.own_weak hFp.own (by omega)
      · exact own_weakJ (hFp.val f hf).1 (by omega)
      · rw [hFp.eq, hS]
        exact HEQ.out
    have HK := hid hK
    clear hF hFp hgp hb0 hK
    gi_wp2
    refine ⟨by simp, .inl ⟨_, _, rfl, run_takeDeferred HK.out, ?_⟩⟩
    exact ⟨.slice vp fs.length vc, by simp [results, Tryz.results37, go_sem], HP.out⟩
  case stop =>
    rintro c pre W _ hx _
    exact hx.elim

end Go.Proofs.YticfpkodoghnnaaGreat

/-
  All keys of a directory, sorted (stage 7): maps.Keys, slices.Collect and SortedFunc at its map.
-/
namespace Go.Proofs.YticfpkodoghnnaaGreat
open Go.RowKit Go.Maps Go.Sort
attribute [local go_sem] Oper.semAt_some

section
variable {F : Fence} {nf : Nat} (w : World) {ops : Array Oper} {rest : List Oper} {o : Oper} {a : Act} {Q : Exit → Act → World → Prop}

set_option maxRecDepth 100000 in
theorem wpIn_range_D (hg : o.guard = none) (mo : Operand) (hop : o.op = Op.range 102 mo) (m n : Nat) (f : Ky → Option Nat) (hm : a.eval mo = .map (some m)) (h : MapD w m n f)
    (hK : ∀ w' cnt, RangeD w' m w.heap.size n f [] cnt → w.grownBy w' none → w'.heap.size = w.heap.size + 1 → wpListIn F nf Tryz.prog ops Q rest (a.put o.dst (.pointer (some ⟨w.heap.size, 0, none⟩))) w') :
    wpListIn F nf Tryz.prog ops Q (o :: rest) a w := by
  obtain ⟨D, hD, hf, hh⟩ := h
  exact wpListIn_range_own w hg mo _ hop _ _ Tryz.keyedKey Tryz.underlying102 ptrR m n D hm hD fun w' h1 h2 h3 => hK w' _ (rangeD_start hD hf hh h1) h2 h3

set_option maxRecDepth 100000 in
theorem wpIn_next_D (hg : o.guard = none) (it : Operand) (hop : o.op = Op.next it false) (m r n : Nat) (f : Ky → Option Nat) (seen : List Ky) (cnt : Nat) (hit : a.eval it = .pointer (some ⟨r, 0, none⟩)) (h : RangeD w m r n f seen cnt)
    (hDone : (∀ k, FitK k → (f k).isSome = true → k ∈ seen) → wpListIn F nf Tryz.prog ops Q rest (a.put o.dst (.tuple #[.bool false])) w)
    (hMore : ∀ (k : Ky) (b : Nat) (w' : World) (cnt' : Nat), FitK k → k ∉ seen → f k = some b → RangeD w' m r n f (seen ++ [k]) cnt' → cnt' < cnt → w.grownBy w' (some r) → w'.heap.size = w.heap.size →
      (Instr.entry (.pointer (some ⟨r, 0, none⟩))).run Tryz.prog w' = .ok (.tuple #[valK k, mkP (some b)]) w' → wpListIn F nf Tryz.prog ops Q rest (a.put o.dst (.tuple #[.bool true, valK k, mkP (some b)])) w') :
    wpListIn F nf Tryz.prog ops Q (o :: rest) a w := by
  obtain ⟨D, left, h1, h2, h3, h4, h5, h6, h7⟩ := h
  refine wpListIn_next_ranges w hg it hop _ Tryz.keyedKey ptrR valK mkP keyL_inv ptrR_inv m r n D left cnt hit h1 (fun _ hl => hDone fun k hk hs => ?_) fun x c kl y w' cnt' hkey hlk hR hat hr hlt hg' hsz hen => ?_
  · refine Classical.byContradiction fun hn => ?_
    have := (h4 k hk).2 ⟨hs, hn⟩
    rw [hl] at this
    cases this
  · obtain ⟨g1, g2, g3, g4⟩ := rangeD_step h2 h3 h4 h5 h6 h7 hkey hlk hlt hr
    have hc : c = f x := by
      rw [ptrR_mk] at hR
      injection hR with hR
      have := hat (encP none)
      rw [← hR, (keyL_fit hkey).2, h2 x g1] at this
      exact (encP_inj this).symm
    subst hc
    obtain ⟨b, hb⟩ := Option.isSome_iff_exists.1 g3
    rw [hb] at hen ⊢
    exact hMore x b w' cnt' g1 g2 hb g4 hlt hg' hsz hen
end

/-- Maps and their iterators stay. -/
def KpW (W W' : World) : Prop := W.heap.size ≤ W'.heap.size ∧ ∀ (k : Nat) (o : Obj), W.heap[k]? = some o → o.isWalk = true → W'.heap[k]? = some o
theorem kpW_trans {X Y Z : World} (h : KpW X Y) (k : KpW Y Z) : KpW X Z := ⟨Nat.le_trans h.1 k.1, fun i o hi ho => k.2 i o (h.2 i o hi ho) ho⟩
theorem kpW_put (W : World) (l : Nat) (o : Obj) (h : ∃ r, W.heap[l]? = some (.loop r)) : KpW W (W.putObj l o) := by
  obtain ⟨r, hr⟩ := h
  refine ⟨by simp, fun k ob hk ho => ?_⟩
  by_cases e : k = l
  · subst e
    rw [hr] at hk
    injection hk with hk
    subst hk
    cases ho
  · exact (World.putObj_heap_other e).trans hk
theorem kpW_fr {P : Nat → Prop} {W W' : World} (f : Fr P W W') (h : ∀ b, P b → b < W.heap.size → ∃ cs t fz, W.heap[b]? = some (.cells cs t fz)) : KpW W W' := by
  refine ⟨f.size, fun k o hk ho => ?_⟩
  have hlt := (Array.getElem?_eq_some_iff.1 hk).1
  by_cases hp : P k
  · obtain ⟨cs, t, fz, hc⟩ := h k hp hlt
    rw [hc] at hk
    injection hk with hk
    subst hk
    cases ho
  · exact (f.block k hlt hp).trans hk

def encKk (k : Ky) : Array Value := #[.agg #[.string k.1, .string k.2]]

/-- Keys under way: in the box Bs lies a list of those that came. -/
structure KsSt (Bs : Nat) (w : World) (pre : List Ky) (v : Value) (W : World) : Prop where
  box : W.heap[Bs]? = some (.cells #[v] 118 (0, 0))
  own : KK.Own w.heap.size W v pre
  fr : Fr (fun b => b = Bs) w W
  lt : Bs < w.heap.size

theorem KsSt.nc {Bs : Nat} {w : World} {pre : List Ky} {v : Value} {W W' : World} {row : Option Nat} (h : KsSt Bs w pre v W) (hg : W.grownBy W' row) (hr : ∀ r, row = some r → w.heap.size ≤ r ∧ ∃ ob : Obj, W.heap[r]? = some ob ∧ ob.isCells = false) : KsSt Bs w pre v W' :=
  ⟨cells_nc h.box hg fun r e => (hr r e).2, own_nc h.own hg fun r e => (hr r e).2, Fr.then h.fr (fr_row hg) fun b hb => Or.inr (hr b hb).1, h.lt⟩

theorem KsSt.own_from (Bs : Nat) (w : World) : OwnFrom w.heap.size (fun pre W => ∃ v, KsSt Bs w pre v W) := by
  rintro s W W' row ⟨v, h⟩ hg hr
  exact ⟨v, h.nc hg hr⟩

theorem ks_push {Bs : Nat} {w : World} {pre : List Ky} {v v' : Value} {W W4 w1 : World} {x : Ky} (h : KsSt Bs w pre v W) (hb4 : Below W.heap.size W W4) (hg : W4.grownBy w1 v.ownBlock) (ho1 : KK.Own w.heap.size w1 v' (pre ++ [x])) :
    KeepsFrom w.heap.size W (w1.setCell ⟨Bs, 0, none⟩ v') ∧ KpW W (w1.setCell ⟨Bs, 0, none⟩ v') ∧ KsSt Bs w (pre ++ [x]) v' (w1.setCell ⟨Bs, 0, none⟩ v') := by
  have hlt := h.lt
  have hfs := h.fr.size
  have hblk : ∀ b, v.ownBlock = some b → w.heap.size ≤ b ∧ ∃ cs, W.heap[b]? = some (.cells cs 31 (0, 0)) := fun b hb => ⟨(World.ownsRow.lt h.own b hb).1, own_type h.own hb⟩
  have fset : Fr (fun b => b = Bs) w1 (w1.setCell ⟨Bs, 0, none⟩ v') := Fr.of_grown (grown_set w1 Bs 0 v') fun k hk => by injection hk with hk; exact hk.symm
  have f41 : Fr (fun b => v.ownBlock = some b) W w1 := Fr.then (Fr.of_below hb4) (fr_row hg) fun b hb => Or.inl hb
  have f5 : Fr (fun b => b = Bs ∨ v.ownBlock = some b) W (w1.setCell ⟨Bs, 0, none⟩ v') := Fr.then (f41.mono fun b hb => Or.inr hb) fset fun b hb => Or.inl (Or.inl hb)
  have hbox1 : w1.heap[Bs]? = some (.cells #[v] 118 (0, 0)) := (f41.block Bs (by omega) fun e => by have := (hblk Bs e).1; omega).trans h.box
  have hcell : ∀ b, (b = Bs ∨ v.ownBlock = some b) → ∃ cs t fz, W.heap[b]? = some (.cells cs t fz) := fun b hb => by
    rcases hb with rfl | hb
    · exact ⟨_, _, _, h.box⟩
    · obtain ⟨cs, h1⟩ := (hblk b hb).2
      exact ⟨_, _, _, h1⟩
  refine ⟨keeps_of f5 fun b _ e => hcell b e, kpW_fr f5 fun b hb _ => hcell b hb, heap_setCell_same w1 Bs 0 _ _ _ hbox1, fset.row ho1 fun k hk e => ?_, Fr.then h.fr f5 fun b hb => ?_, hlt⟩
  · have := (World.ownsRow.lt ho1 k hk).1; omega
  · rcases hb with hb | hb
    · exact Or.inl hb
    · exact Or.inr (hblk b hb).1

/-- In a round: the box of the loop variable. -/
def AxK (Bs : Nat) (w : World) (n : Nat) (A : Nat → Ky → Act) (pre : List Ky) (x : Ky) (a' : Act) (W : World) : Prop :=
  ∃ Bx v, a' = A Bx x ∧ W.heap[Bx]? = some (.cells #[.string x.1, .string x.2] 31 (0, 0)) ∧ KsSt Bs w pre v W ∧ pre.length < n

theorem AxK.own_from (Bs : Nat) (w : World) (n : Nat) (A : Nat → Ky → Act) (pre : List Ky) (x : Ky) (a' : Act) : OwnFrom w.heap.size (fun (_ : Unit) W => AxK Bs w n A pre x a' W) := by
  rintro _ W W' row ⟨Bx, v, h1, h2, h3, h4⟩ hg hr
  exact ⟨Bx, v, h1, cells_nc h2 hg fun r e => (hr r e).2, h3.nc hg hr, h4⟩

/-- Keys collected, in whatever order. -/
def CollPost (w : World) (f : Ky → Option Nat) (e : Ending) (w' : World) : Prop :=
  ∃ u ks, e = .returned u ∧ KK.Own w.heap.size w' u ks ∧ ks.Nodup ∧ (∀ k, k ∈ ks ↔ FitK k ∧ (f k).isSome = true) ∧ Below w.heap.size w w'

theorem sorted_rising (ks : List Ky) (hn : ks.Nodup) (d : Array Ky) (hp : PermIn 0 ks.length ks.toArray d) (hs : SortedIn (ltOf Z.cmpK) 0 ks.length d) : RisingR ltKy d.toList ∧ (∀ x, x ∈ d.toList ↔ x ∈ ks) ∧ d.size = ks.length := by
  obtain ⟨h1, _, h3⟩ := hp
  have hsz : d.size = ks.length := by simpa using h1
  have hperm : d.toList.Perm ks := by
    have e1 : (d.extract 0 ks.length).toList = d.toList := by rw [← hsz]; simp
    have e2 : (ks.toArray.extract 0 ks.length).toList = ks := by simp
    rw [e1, e2] at h3
    exact h3
  have hnd : d.toList.Nodup := hperm.nodup_iff.2 hn
  refine ⟨?_, fun x => hperm.mem_iff, hsz⟩
  refine List.pairwise_iff_getElem.2 fun i j hi hj hij => ?_
  have hi' : i < d.size := by simpa using hi
  have hj' : j < d.size := by simpa using hj
  have := hs i j (Nat.zero_le _) hij (by omega)
  rw [getElem!_pos d i hi', getElem!_pos d j hj'] at this
  have hne : d[i] ≠ d[j] := fun e => by
    have := List.pairwise_iff_getElem.1 hnd i j hi hj hij
    exact this (by simpa using e)
  have hlt : Z.ahead d[i] d[j] := by
    rcases Z.ahead_total d[i] d[j] with h | h | h
    · exact h
    · exact absurd h hne
    · rw [(Z.ahead_iff _ _).2 h] at this; cases this
  have := (z_lt _ _).1 hlt
  simpa using this

/-- Keys, rising. -/
def RisePost (w : World) (f : Ky → Option Nat) (e : Ending) (w' : World) : Prop :=
  ∃ u ks, e = .returned u ∧ KK.Own w.heap.size w' u ks ∧ RisingR ltKy ks ∧ (∀ k, k ∈ ks ↔ FitK k ∧ (f k).isSome = true) ∧ Below w.heap.size w w'

/-- A row of keys, sorted in place. -/
theorem sortrow_any {B : Nat} {w : World} {u : Value} {ks : List Ky} (h : KK.Own B w u ks) (hn : ks.Nodup) (hl : ks.length ≤ 2400000000000) (hB : B ≤ w.heap.size) :
    Calls Tryz.prog 112 #[u, .func (.func 99) #[] #[]] w fun e w' => e = .returned (.tuple #[]) ∧ ∃ l, KK.Own B w' u l ∧ RisingR ltKy l ∧ (∀ x, x ∈ l ↔ x ∈ ks) ∧ l.length = ks.length ∧ Below B w w' := by
  rcases h.2 with ⟨rfl, hz⟩ | ⟨g, cap, cur, rfl, _⟩
  · obtain rfl := List.length_eq_zero_iff.1 hz
    refine (sortfunc_nil w).mono ?_
    rintro e w' ⟨rfl, rfl⟩
    exact ⟨rfl, [], h, List.Pairwise.nil, fun x => Iff.rfl, rfl, Below.refl _ _⟩
  · have hge := Kind.own_ge h
    have hH : HoldsK Z.encKey 2 w g 0 ks.toArray := Kind.own_holds h
    have := Z.zsortfunc_any g 0 cap ks.toArray w hH hge.2.1 (by simp; omega)
    simp only [List.size_toArray] at this
    refine this.mono ?_
    rintro e w' ⟨rfl, d', n, os, hp, hs, rfl⟩
    obtain ⟨h1, h2, h3⟩ := sorted_rising ks hn d' hp hs
    exact ⟨rfl, d'.toList, Kind.own_sorted h d' h3 n os, h1, h2, by simpa using h3, below_sortK Z.encKey 2 (Below.refl _ _) hB g 0 n d' os hge.1⟩

end Go.Proofs.YticfpkodoghnnaaGreat

/-
  Walk of a directory (stage 7): what it finds when it is called.
-/
namespace Go.Proofs.YticfpkodoghnnaaGreat
open Go.RowKit
attribute [local go_sem] Oper.semAt_some

end Go.Proofs.YticfpkodoghnnaaGreat

/-
  A value in memory of its own, as a directory's walk hands it out (stage 7).
-/
namespace Go.Proofs.YticfpkodoghnnaaGreat
open Go.RowKit

end Go.Proofs.YticfpkodoghnnaaGreat

/-
  The iterator that Walk makes (stage 7).
-/
namespace Go.Proofs.YticfpkodoghnnaaGreat
open Go.RowKit
attribute [local go_sem] Oper.semAt_some

/-- What was found, in the world Wk in which Walk returned. -/
structure WkAt (B0 : Nat) (Wk : World) (Bw : Nat) (p : Option Addr) (cap : Nat) (fs : List Fd) : Prop where
  box : Wk.heap[Bw]? = some (.cells #[.slice p fs.length cap] 46 (0, 0))
  own : KFd.Own B0 Wk (.slice p fs.length cap) fs
  val : ∀ f ∈ fs, OwnJ B0 Wk f.v.sl f.v.o ∧ mayB (f.v.o.map Fx.fld) = true
  few : fs.length ≤ 1200000000000

theorem WkAt.on {B0 : Nat} {Wk W : World} {Bw : Nat} {p : Option Addr} {cap : Nat} {fs : List Fd} (h : WkAt B0 Wk Bw p cap fs) (hb : Below Wk.heap.size Wk W) : WkAt B0 W Bw p cap fs :=
  ⟨(hb.block Bw (Array.getElem?_eq_some_iff.1 h.box).1).trans h.box, Kind.own_on h.own hb, fun f hf => ⟨(h.val f hf).1.on hb, (h.val f hf).2⟩, h.few⟩

theorem shapeJ {N : Nat} {w : World} {u : Value} {o : List Fx} (h : OwnJ N w u o) : ∃ p c, u = .slice p o.length c := by
  rcases h.1.1.2 with ⟨rfl, hz⟩ | ⟨g, cap, cur, rfl, _⟩
  · exact ⟨none, 0, by rw [hz]⟩
  · exact ⟨_, _, rfl⟩

theorem kpX_below {Bf : Nat} {Wk w W : World} (hb : Below Wk.heap.size Wk w) (hBf : Wk.heap.size ≤ Bf) (h : KpX Bf w.heap.size w W) : Below Wk.heap.size Wk W :=
  hb.trans (Fr.below h hb.size fun k hk => by
    have := hb.size
    rcases hk with hk | hk
    · omega
    · omega)

end Go.Proofs.YticfpkodoghnnaaGreat

/-
  What a walk gives, as the laws of stage 7 collect it: at most 65537 finds.
-/
namespace Go.Proofs.YticfpkodoghnnaaGreat
open Go.RowKit
attribute [local go_sem] Oper.semAt_some

/-- A round has returned: the result's box holds what was collected. -/
def WdX (N : Nat) (W0 w4 : World) (c : Code) (pre : List Kx) (W : World) : Prop :=
  c = .ret ∧ pre.length = 65537 ∧ ∃ v fs, W.heap[N]? = some (.cells #[v] 46 (0, 0)) ∧ KFd.Own w4.heap.size W v fs ∧ (∀ f ∈ fs, OwnJ w4.heap.size W f.v.sl f.v.o ∧ mayB (f.v.o.map Fx.fld) = true) ∧ fs.map Fd.fnd = pre.map fndX ∧ Below N W0 W

theorem WdX.own_from {N : Nat} {W0 w4 : World} (hN : N ≤ w4.heap.size) (c : Code) : OwnFrom w4.heap.size (WdX N W0 w4 c) := by
  rintro s W W' row ⟨h1, h2, v, fs, h3, h4, h5, h6, h7⟩ hg hr
  refine ⟨h1, h2, v, fs, cells_nc h3 hg fun r e => (hr r e).2, own_nc h4 hg fun r e => (hr r e).2, fun f hf => ⟨ownJ_nc (h5 f hf).1 hg fun r e => (hr r e).2, (h5 f hf).2⟩, h6, ?_⟩
  have hs := (Array.getElem?_eq_some_iff.1 h3).1
  exact h7.trans ((fr_row hg).below (by omega) fun k hk => by have := (hr k hk).1; omega)

theorem FdSt.all {Bf : Nat} {w : World} {pre : List Kx} {v : Value} {fs : List Fd} {W : World} (h : FdSt Bf w (fun _ => true) pre v fs W) : fs.map Fd.fnd = pre.map fndX ∧ fs.length = pre.length := by
  have e := h.eq
  rw [List.filter_eq_self.2 fun _ _ => rfl] at e
  refine ⟨e, ?_⟩
  have := congrArg List.length e
  simpa using this

theorem eqlIn_func (d : Nat) (w : World) (fn : Fn) (a b : Array Value) : (Op.equalIn (d + 1) 116 (.func fn a b) .nilFunc).run Tryz.prog w = .ok false w := by
  simp [Op.equalIn, run_underlying Tryz.underlying116]
theorem eql_func (w : World) (fn : Fn) (a b : Array Value) : (binOp .eql 116 (.func fn a b) .nilFunc).run Tryz.prog w = .ok (.bool false) w := by
  simp only [binOp]
  simp [show Op.equal 116 (.func fn a b) .nilFunc = Op.equalIn (9999 + 1) 116 (.func fn a b) .nilFunc from rfl, eqlIn_func 9999 w fn a b]

end Go.Proofs.YticfpkodoghnnaaGreat

/-
  The library's functions at this program's own numbers: the tables that tie each to the contract that the library proves once.
-/
namespace Go.Proofs
open Go.Shelf
def Tryz.sortFnd_ren : Go.Shelf.Ren := ⟨fun | 6 => 70 | 15 => 96 | 14 => 95 | 28 => 131 | 29 => 132 | 20 => 123 | 21 => 124 | 22 => 125 | 23 => 126 | 24 => 127 | 25 => 128 | 26 => 129 | 27 => 130 | 46 => 148 | 47 => 149 | 48 => 150 | 49 => 151 | 50 => 152 | 57 => 166 | n => n, fun | 22 => 46 | 24 => 70 | 25 => 125 | 3 => 3 | 39 => 146 | 0 => 0 | 53 => 170 | 55 => 29 | 4 => 4 | 46 => 164 | 45 => 163 | 50 => 154 | 5 => 5 | 9 => 9 | 66 => 178 | 70 => 182 | 76 => 192 | 77 => 193 | n => n, fun | n => n⟩
theorem Tryz.sortFnd : Go.Proofs.SlLaysF0.n6 Tryz.prog Tryz.sortFnd_ren := {
  mixed := by kernel_rfl
  f6 := ⟨Tryz.f70.name, by decide, Tryz.func70.trans (congrArg some (by kernel_rfl))⟩
  f14 := ⟨Tryz.f95.name, by decide, Tryz.func95.trans (congrArg some (by kernel_rfl))⟩
  f15 := Tryz.func96.trans (congrArg some (by kernel_rfl))
  f20 := ⟨Tryz.f123.name, by decide, Tryz.func123.trans (congrArg some (by kernel_rfl))⟩
  f21 := ⟨Tryz.f124.name, by decide, Tryz.func124.trans (congrArg some (by kernel_rfl))⟩
  f22 := ⟨Tryz.f125.name, by decide, Tryz.func125.trans (congrArg some (by kernel_rfl))⟩
  f23 := ⟨Tryz.f126.name, by decide, Tryz.func126.trans (congrArg some (by kernel_rfl))⟩
  f24 := ⟨Tryz.f127.name, by decide, Tryz.func127.trans (congrArg some (by kernel_rfl))⟩
  f25 := ⟨Tryz.f128.name, by decide, Tryz.func128.trans (congrArg some (by kernel_rfl))⟩
  f26 := ⟨Tryz.f129.name, by decide, Tryz.func129.trans (congrArg some (by kernel_rfl))⟩
  f27 := ⟨Tryz.f130.name, by decide, Tryz.func130.trans (congrArg some (by kernel_rfl))⟩
  f28 := Tryz.func131.trans (congrArg some (by kernel_rfl))
  f29 := Tryz.func132.trans (congrArg some (by kernel_rfl))
  f46 := ⟨Tryz.f148.name, by decide, Tryz.func148.trans (congrArg some (by kernel_rfl))⟩
  f47 := Tryz.func149.trans (congrArg some (by kernel_rfl))
  f48 := Tryz.func150.trans (congrArg some (by kernel_rfl))
  f49 := ⟨Tryz.f151.name, by decide, Tryz.func151.trans (congrArg some (by kernel_rfl))⟩
  f50 := ⟨Tryz.f152.name, by decide, Tryz.func152.trans (congrArg some (by kernel_rfl))⟩
  f57 := ⟨Tryz.f166.name, by decide, Tryz.func166.trans (congrArg some (by kernel_rfl))⟩
  t0 := Tryz.underlying0
  a0 := Tryz.isAgg0
  z0 := Tryz.sizeOf0
  v0 := Tryz.zeroValue0
  t3 := Tryz.underlying3
  a3 := Tryz.isAgg3
  z3 := Tryz.sizeOf3
  v3 := Tryz.zeroValue3
  t4 := Tryz.underlying4
  a4 := Tryz.isAgg4
  z4 := Tryz.sizeOf4
  v4 := Tryz.zeroValue4
  t5 := Tryz.underlying5
  a5 := Tryz.isAgg5
  z5 := Tryz.sizeOf5
  v5 := Tryz.zeroValue5
  t9 := Tryz.underlying9
  a9 := Tryz.isAgg9
  z9 := Tryz.sizeOf9
  v9 := Tryz.zeroValue9
  t22 := Tryz.underlying46
  a22 := Tryz.isAgg46
  z22 := Tryz.sizeOf46
  v22 := Tryz.zeroValue46
  t25 := Tryz.underlying125
  a25 := Tryz.isAgg125
  z25 := Tryz.sizeOf125
  v25 := Tryz.zeroValue125
  t39 := Tryz.underlying146
  a39 := Tryz.isAgg146
  z39 := Tryz.sizeOf146
  v39 := Tryz.zeroValue146
  t45 := Tryz.underlying163
  a45 := Tryz.isAgg163
  z45 := Tryz.sizeOf163
  v45 := Tryz.zeroValue163
  t46 := Tryz.underlying164
  a46 := Tryz.isAgg164
  z46 := Tryz.sizeOf164
  v46 := Tryz.zeroValue164
  t50 := Tryz.underlying154
  a50 := Tryz.isAgg154
  z50 := Tryz.sizeOf154
  v50 := Tryz.zeroValue154
  t53 := Tryz.underlying170
  a53 := Tryz.isAgg170
  z53 := Tryz.sizeOf170
  v53 := Tryz.zeroValue170
  t55 := Tryz.underlying29
  a55 := Tryz.isAgg29
  z55 := Tryz.sizeOf29
  v55 := Tryz.zeroValue29
  t66 := Tryz.underlying178
  a66 := Tryz.isAgg178
  z66 := Tryz.sizeOf178
  v66 := Tryz.zeroValue178
  t70 := Tryz.underlying182
  a70 := Tryz.isAgg182
  z70 := Tryz.sizeOf182
  v70 := Tryz.zeroValue182
  t76 := Tryz.underlying192
  a76 := Tryz.isAgg192
  z76 := Tryz.sizeOf192
  v76 := Tryz.zeroValue192
  t77 := Tryz.underlying193
  a77 := Tryz.isAgg193
  z77 := Tryz.sizeOf193
  v77 := Tryz.zeroValue193 }
end Go.Proofs

/-
  Finds sorted by stamp, then by key (stage 7): earlier, and SortFunc at finds.
-/
namespace Go.Proofs.YticfpkodoghnnaaGreat
open Go.RowKit Go.Lib Go.Sort

def cmpFd (x y : Fd) : Int := Z.orI (Lib.compareInt x.v.stamp y.v.stamp) (Z.cmpI x.a x.b y.a y.b)
/-- Which of two stands ahead. -/
def ltFd (x y : Fnd) : Bool := decide (x.2.stamp < y.2.stamp) || (decide (x.2.stamp = y.2.stamp) && ltKy x.1 y.1)

theorem cmpFd_lt (x y : Fd) : ltOf cmpFd x y = ltFd x.fnd y.fnd := by
  have hk : decide (Z.cmpI x.a x.b y.a y.b < 0) = ltKy (x.a, x.b) (y.a, y.b) := by
    rw [Bool.eq_iff_iff, decide_eq_true_iff]
    exact z_lt (x.a, x.b) (y.a, y.b)
  show decide (cmpFd x y < 0) = (decide (x.v.stamp < y.v.stamp) || (decide (x.v.stamp = y.v.stamp) && ltKy (x.a, x.b) (y.a, y.b)))
  unfold cmpFd Z.orI
  rcases Int.lt_trichotomy x.v.stamp y.v.stamp with h | h | h
  · have hc : Lib.compareInt x.v.stamp y.v.stamp = -1 := by unfold Lib.compareInt; simp [h]
    rw [hc]
    simp [h]
  · have hc : Lib.compareInt x.v.stamp y.v.stamp = 0 := by unfold Lib.compareInt; simp [h]
    rw [hc, if_pos rfl, hk]
    simp [h]
  · have hn : ¬ x.v.stamp < y.v.stamp := by omega
    have hc : Lib.compareInt x.v.stamp y.v.stamp = 1 := by unfold Lib.compareInt; simp [hn, h]
    have hne : x.v.stamp ≠ y.v.stamp := by omega
    rw [hc]
    simp [hn, hne]

theorem ltFd_iff (x y : Fnd) : ltFd x y = true ↔ x.2.stamp < y.2.stamp ∨ (x.2.stamp = y.2.stamp ∧ ltKy x.1 y.1 = true) := by
  unfold ltFd
  simp

theorem swoFd : SWO (ltOf cmpFd) where
  irrefl x := by
    rw [cmpFd_lt]
    cases h : ltFd x.fnd x.fnd with
    | false => rfl
    | true =>
      rcases (ltFd_iff _ _).1 h with h | ⟨_, h⟩
      · omega
      · rw [totK.irr] at h; cases h
  trans x y z h1 h2 := by
    rw [cmpFd_lt, ltFd_iff] at *
    rcases h1 with h1 | ⟨h1, k1⟩
    · rcases h2 with h2 | ⟨h2, _⟩
      · exact Or.inl (by omega)
      · exact Or.inl (by omega)
    · rcases h2 with h2 | ⟨h2, k2⟩
      · exact Or.inl (by omega)
      · exact Or.inr ⟨by omega, totK.tr _ _ _ k1 k2⟩
  ntrans x y z h1 h2 := by
    rw [cmpFd_lt] at *
    cases h : ltFd x.fnd z.fnd with
    | false => rfl
    | true =>
      have n1 : ¬ ltFd x.fnd y.fnd = true := by rw [h1]; simp
      have n2 : ¬ ltFd y.fnd z.fnd = true := by rw [h2]; simp
      rw [ltFd_iff] at n1 n2
      rcases (ltFd_iff _ _).1 h with h | ⟨h, k⟩
      · rcases Int.lt_or_le x.fnd.2.stamp y.fnd.2.stamp with a | a
        · exact absurd (Or.inl a) n1
        · exact absurd (Or.inl (by omega)) n2
      · have e1 : x.fnd.2.stamp = y.fnd.2.stamp := by
          rcases Int.lt_trichotomy x.fnd.2.stamp y.fnd.2.stamp with a | a | a
          · exact absurd (Or.inl a) n1
          · exact a
          · exact absurd (Or.inl (by omega)) n2
        have e2 : y.fnd.2.stamp = z.fnd.2.stamp := by omega
        rcases totK.tot y.fnd.1 x.fnd.1 with a | a | a
        · exact absurd (Or.inr ⟨e2, totK.tr _ _ _ a k⟩) n2
        · exact absurd (Or.inr ⟨e2, by rw [a]; exact k⟩) n2
        · exact absurd (Or.inr ⟨e1, a⟩) n1

/-! ## earlier -/

theorem nan_u64 (a : Int) (w : World) : Calls Tryz.prog 133 #[.int .u64 a] w fun e w' => e = .returned (.bool false) ∧ w' = w := by
  go_enter Tryz.func133, Tryz.ntmps133
  go_wp2_with fail
  go_ret
  exact ⟨by simp, rfl⟩

theorem cmp_u64 (a b : Int) (w : World) : Calls Tryz.prog 98 #[.int .u64 a, .int .u64 b] w fun e w' => e = .returned (.int .i64 (Lib.compareInt a b)) ∧ w' = w := by
  have HN := hid nan_u64
  rcases Int.lt_trichotomy a b with h | h | h
  · have hc : Lib.compareInt a b = -1 := by unfold Lib.compareInt; simp [h]
    rw [hc]
    go_enter Tryz.func98, Tryz.ntmps98
    go_wp2_with (first | (go_at_call 133; refine (HN.out _ _).mono ?_; rintro e w1 ⟨rfl, rfl⟩))
    go_ret
    exact ⟨rfl, rfl⟩
  · have hc : Lib.compareInt a b = 0 := by unfold Lib.compareInt; simp [h]
    rw [hc]
    subst h
    have hn : ¬ a < a := by omega
    go_enter Tryz.func98, Tryz.ntmps98
    go_wp2_with (first | (go_at_call 133; refine (HN.out _ _).mono ?_; rintro e w1 ⟨rfl, rfl⟩))
    go_ret
    exact ⟨rfl, rfl⟩
  · have hn : ¬ a < b := by omega
    have hc : Lib.compareInt a b = 1 := by unfold Lib.compareInt; simp [hn, h]
    rw [hc]
    go_enter Tryz.func98, Tryz.ntmps98
    go_wp2_with (first | (go_at_call 133; refine (HN.out _ _).mono ?_; rintro e w1 ⟨rfl, rfl⟩))
    go_ret
    exact ⟨rfl, rfl⟩

set_option maxHeartbeats 4000000 in
set_option maxRecDepth 100000 in
theorem earlier_any (x y : Fd) (w : World) : Calls Tryz.prog 71 #[.agg (encFd x).toArray, .agg (encFd y).toArray] w fun e w' => e = .returned (.int .i64 (cmpFd x y)) ∧ Grown w w' := by
  obtain ⟨p1, hp1⟩ : ∃ p, Lib.compareInt x.v.stamp y.v.stamp = p := ⟨_, rfl⟩
  obtain ⟨p2, hp2⟩ : ∃ p, Z.cmpI x.a x.b y.a y.b = p := ⟨_, rfl⟩
  have HC : Hid (cmpFd x y = Z.orI p1 p2) := by show _ = _; rw [← hp1, ← hp2]; rfl
  have H1 : Hid (∀ w, Calls Tryz.prog 98 #[.int .u64 x.v.stamp, .int .u64 y.v.stamp] w fun e w' => e = .returned (.int .i64 p1) ∧ w' = w) := fun w => by rw [← hp1]; exact cmp_u64 _ _ _
  have H2 : Hid (∀ w, Calls Tryz.prog 99 #[.agg #[.string x.a, .string x.b], .agg #[.string y.a, .string y.b]] w fun e w' => e = .returned (.int .i64 p2) ∧ Grown w w') := fun w => by
    rw [← hp2]
    exact (Z.compare_eq x.a x.b y.a y.b w).mono fun e w' ⟨h1, h2⟩ => ⟨h1, by rw [h2]; exact ((((Grown.refl _).alloc _).alloc _).alloc _).drewN 1⟩
  clear hp1 hp2
  obtain ⟨xa, xb, xn, xs, xt, xl, xp, xc, xo⟩ := x
  obtain ⟨ya, yb, yn, ys, yt, yl, yp, yc, yo⟩ := y
  simp only [encFd, encVx, Vx.sl] at *
  obtain ⟨W, hW⟩ : ∃ W, (w.alloc (.cells #[.string xa, .string xb, .int .i64 xn, .int .u64 xs, .int .i64 xt, .bool xl, .slice xp xo.length xc] 70)).alloc (.cells #[.string ya, .string yb, .int .i64 yn, .int .u64 ys, .int .i64 yt, .bool yl, .slice yp yo.length yc] 70) = W := ⟨_, rfl⟩
  obtain ⟨N, hN⟩ : ∃ N, w.heap.size = N := ⟨_, rfl⟩
  have hs : W.heap.size = N + 2 := by rw [← hW, ← hN]; simp
  have hh0 : W.heap[N]? = some (.cells #[.string xa, .string xb, .int .i64 xn, .int .u64 xs, .int .i64 xt, .bool xl, .slice xp xo.length xc] 70 (0, 0)) := by
    rw [← hW, ← hN]; exact (Below.heap_alloc _ _ _ (by simp)).trans (heap_alloc_new w _)
  have hh1 : W.heap[N + 1]? = some (.cells #[.string ya, .string yb, .int .i64 yn, .int .u64 ys, .int .i64 yt, .bool yl, .slice yp yo.length yc] 70 (0, 0)) := by
    rw [← hW, ← hN]; have := heap_alloc_new (w.alloc (.cells #[.string xa, .string xb, .int .i64 xn, .int .u64 xs, .int .i64 xt, .bool xl, .slice xp xo.length xc] 70)) (.cells #[.string ya, .string yb, .int .i64 yn, .int .u64 ys, .int .i64 yt, .bool yl, .slice yp yo.length yc] 70); rwa [World.size_alloc] at this
  have HG : Hid (Grown w W.drew) := by rw [← hW]; exact (((Grown.refl _).alloc _).alloc _).drewN 1
  have KS : Hid (∀ w' : World, Grown W.drew w' → (w'.cell? ⟨N, 0, none⟩ = some (.string xa) ∧ w'.cell? ⟨N, 1, none⟩ = some (.string xb) ∧ w'.cell? ⟨N, 3, none⟩ = some (.int .u64 xs)) ∧ w'.cell? ⟨N + 1, 0, none⟩ = some (.string ya) ∧ w'.cell? ⟨N + 1, 1, none⟩ = some (.string yb) ∧ w'.cell? ⟨N + 1, 3, none⟩ = some (.int .u64 ys)) := fun w' hg => by
    have h0 := (hg.below.block N (show N < W.heap.size by omega)).trans hh0
    have h1 := (hg.below.block (N + 1) (show N + 1 < W.heap.size by omega)).trans hh1
    rw [Lib.cell_of_heap h0, Lib.cell_of_heap h0, Lib.cell_of_heap h0, Lib.cell_of_heap h1, Lib.cell_of_heap h1, Lib.cell_of_heap h1]
    exact ⟨⟨rfl, rfl, rfl⟩, rfl, rfl, rfl⟩
  have q0 := KS.out W.drew (Grown.refl _)
  clear hh0 hh1 hs
  go_enter Tryz.func71, Tryz.ntmps71
  go_wp2_with fail
  try rw [hN]
  try rw [hW]
  clear hW hN
  refine wp_region_held_drew (S := fun w' => (w'.cell? ⟨N, 0, none⟩ = some (.string xa) ∧ w'.cell? ⟨N, 1, none⟩ = some (.string xb) ∧ w'.cell? ⟨N, 3, none⟩ = some (.int .u64 xs)) ∧ w'.cell? ⟨N + 1, 0, none⟩ = some (.string ya) ∧ w'.cell? ⟨N + 1, 1, none⟩ = some (.string yb) ∧ w'.cell? ⟨N + 1, 3, none⟩ = some (.int .u64 ys)) (by kernel_rfl) q0 (fun hHeld => ?_)
  refine take_val (i := 0) (.pointer (some ⟨N, 2, none⟩)) rfl (by kernel_rfl) (by kernel_rfl) (by kernel_rfl) (fun _ _ _ h => h) (by rfl) (fun w hSw => by go_simp) hHeld ?_
  simp only [Act.put, List.setIfInBounds_toArray, List.set_cons_zero, List.set_cons_succ]
  refine take_val (i := 1) (.pointer (some ⟨N, 3, none⟩)) rfl (by kernel_rfl) (by kernel_rfl) (by kernel_rfl) (fun _ _ _ h => h) (by rfl) (fun w hSw => by go_simp) hHeld ?_
  simp only [Act.put, List.setIfInBounds_toArray, List.set_cons_zero, List.set_cons_succ]
  refine take_val (i := 2) (.int .u64 xs) rfl (by kernel_rfl) (by kernel_rfl) (by kernel_rfl) (fun _ _ _ h => h) (by rfl) (fun w hSw => by go_simp) hHeld ?_
  simp only [Act.put, List.setIfInBounds_toArray, List.set_cons_zero, List.set_cons_succ]
  refine take_val (i := 3) (.pointer (some ⟨N + 1, 2, none⟩)) rfl (by kernel_rfl) (by kernel_rfl) (by kernel_rfl) (fun _ _ _ h => h) (by rfl) (fun w hSw => by go_simp) hHeld ?_
  simp only [Act.put, List.setIfInBounds_toArray, List.set_cons_zero, List.set_cons_succ]
  refine take_val (i := 4) (.pointer (some ⟨N + 1, 3, none⟩)) rfl (by kernel_rfl) (by kernel_rfl) (by kernel_rfl) (fun _ _ _ h => h) (by rfl) (fun w hSw => by go_simp) hHeld ?_
  simp only [Act.put, List.setIfInBounds_toArray, List.set_cons_zero, List.set_cons_succ]
  refine take_val (i := 5) (.int .u64 ys) rfl (by kernel_rfl) (by kernel_rfl) (by kernel_rfl) (fun _ _ _ h => h) (by rfl) (fun w hSw => by go_simp) hHeld ?_
  simp only [Act.put, List.setIfInBounds_toArray, List.set_cons_zero, List.set_cons_succ]
  refine take_val (i := 7) (.pointer (some ⟨N, 0, none⟩)) rfl (by kernel_rfl) (by kernel_rfl) (by kernel_rfl) (fun _ _ _ h => h) (by rfl) (fun w hSw => by go_simp) hHeld ?_
  simp only [Act.put, List.setIfInBounds_toArray, List.set_cons_zero, List.set_cons_succ]
  refine take_val (i := 8) (.agg #[.string xa, .string xb]) rfl (by kernel_rfl) (by kernel_rfl) (by kernel_rfl) (fun _ _ _ h => h) (by rfl) (fun w hSw => by go_simp) hHeld ?_
  simp only [Act.put, List.setIfInBounds_toArray, List.set_cons_zero, List.set_cons_succ]
  refine take_val (i := 9) (.pointer (some ⟨N + 1, 0, none⟩)) rfl (by kernel_rfl) (by kernel_rfl) (by kernel_rfl) (fun _ _ _ h => h) (by rfl) (fun w hSw => by go_simp) hHeld ?_
  simp only [Act.put, List.setIfInBounds_toArray, List.set_cons_zero, List.set_cons_succ]
  refine take_val (i := 10) (.agg #[.string ya, .string yb]) rfl (by kernel_rfl) (by kernel_rfl) (by kernel_rfl) (fun _ _ _ h => h) (by rfl) (fun w hSw => by go_simp) hHeld ?_
  simp only [Act.put, List.setIfInBounds_toArray, List.set_cons_zero, List.set_cons_succ]
  refine wpAnyH_ready (rs := [6]) (by kernel_rfl) (by simp) ?_
  refine AllReadyH.cons (at_drop0 rfl) (fun K hK => ?_) AllReadyH.nil
  rw [if_pos (by rfl)]
  go_simp
  refine (H1.out _).mono ?_
  rintro e w5 ⟨rfl, rfl⟩
  go_wp2_with fail
  refine hK.out _ _ q0 (fun hHeld => ?_)
  clear hK K
  try simp only [Act.put, List.setIfInBounds_toArray, List.set_cons_zero, List.set_cons_succ]
  refine wpAnyH_ready (rs := [11]) (by kernel_rfl) (by simp) ?_
  refine AllReadyH.cons (at_drop0 rfl) (fun K hK => ?_) AllReadyH.nil
  rw [if_pos (by rfl)]
  go_simp
  refine (H2.out _).mono ?_
  rintro e w6 ⟨rfl, hg6⟩
  have q6 := KS.out w6 hg6
  have q7 := KS.out (w6.alloc (.cells #[.int .i64 p1, .int .i64 p2] 3)) (hg6.alloc _)
  have HOR := hid (Z.zor_any p1 p2 w6.heap.size (w6.alloc (.cells #[.int .i64 p1, .int .i64 p2] 3)) (by rw [Lib.cell_of_heap (heap_alloc_new w6 _)]; rfl) (by rw [Lib.cell_of_heap (heap_alloc_new w6 _)]; rfl))
  have HG6 := hid (hg6.alloc (.cells #[.int .i64 p1, .int .i64 p2] 3))
  clear hg6
  go_wp2_with fail
  refine hK.out _ _ q6 (fun hHeld => ?_)
  clear hK K
  try simp only [Act.put, List.setIfInBounds_toArray, List.set_cons_zero, List.set_cons_succ]
  refine wpAnyH_ready (rs := [12]) (by kernel_rfl) (by simp) ?_
  refine AllReadyH.cons (at_drop0 rfl) (fun K hK => ?_) AllReadyH.nil
  rw [if_pos (by rfl)]
  go_simp
  refine hK.out _ _ q7 (fun hHeld => ?_)
  clear hK K
  try simp only [Act.put, List.setIfInBounds_toArray, List.set_cons_zero, List.set_cons_succ]
  refine wpAnyH_ready (rs := [13]) (by kernel_rfl) (by simp) ?_
  refine AllReadyH.cons (at_drop0 rfl) (fun K hK => ?_) AllReadyH.nil
  rw [if_pos (by rfl)]
  go_simp
  refine HOR.out.mono ?_
  rintro e w7 ⟨rfl, rfl⟩
  go_wp2_with fail
  refine hK.out _ _ q7 (fun hHeld => ?_)
  clear hK K
  try simp only [Act.put, List.setIfInBounds_toArray, List.set_cons_zero, List.set_cons_succ]
  refine take_val (i := 14) (.int .i64 (Z.orI p1 p2)) rfl (by kernel_rfl) (by kernel_rfl) (by kernel_rfl) (fun _ _ _ h => h) (by rfl) (fun w hSw => by go_simp) hHeld ?_
  simp only [Act.put, List.setIfInBounds_toArray, List.set_cons_zero, List.set_cons_succ]
  refine wpAnyH_done (by kernel_rfl) ?_ _
  go_wp2_with fail
  go_ret
  exact ⟨ret_int HC.out.symm, HG.out.trans HG6.out⟩

theorem cmpLaysFd (blk off size : Nat) (w : World) : CmpLays Tryz.prog 71 #[] encFd 7 cmpFd blk off size w :=
  fun _ _ _ _ x y => earlier_any x y _

theorem enters_earlier : ∀ args w, (callFunc 71 args).run Tryz.prog w = .ok (.enter 71 args) w := enters_of Tryz.func71 (by kernel_rfl) rfl

theorem sortfd_any (blk off cap : Nat) (d : Array Fd) (w : World) (hH : HoldsK encFd 7 w blk off d) (hblk : blk < w.heap.size) (hsz : d.size < 4611686018427387904) :
    Calls Tryz.prog 70 #[.slice (some ⟨blk, off, none⟩) d.size cap, .func (.func 71) #[] #[]] w fun e w' =>
      e = .returned (.tuple #[]) ∧ ∃ d' n os, PermIn 0 d.size d d' ∧ SortedIn (ltOf cmpFd) 0 d.size d' ∧ w' = sortWorldK encFd 7 w blk off n d' os :=
  AnyQ.slices_SortFunc Tryz.sortFnd 7 Tryz.isAgg70 Tryz.sizeOf70 encFd (fun _ => rfl) KFd.one cmpFd swoFd 71 #[] blk off cap d w enters_earlier (cmpLaysFd blk off d.size w) hH hblk hsz

theorem sortfd_nil (W : World) : Calls Tryz.prog 70 #[.slice none 0 0, .func (.func 71) #[] #[]] W fun e w' => e = .returned (.tuple #[]) ∧ w' = W := by
  have hi : ∀ W, Calls Tryz.prog 123 #[.slice none 0 0, .int .i64 0, .int .i64 0, .func (.func 71) #[] #[]] W fun e w' => e = .returned (.tuple #[]) ∧ w' = W := fun W => by
    go_enter Tryz.func123, Tryz.ntmps123
    go_wp2_with fail
    refine wp_loop_rounds 1 ?_
    rw [rounds_succ]
    go_wp2_with fail
    go_end0
    exact ⟨rfl, rfl⟩
  have HI := hid hi
  clear hi
  have hp : ∀ (l : Int) W, Calls Tryz.prog 95 #[.slice none 0 0, .int .i64 0, .int .i64 0, .int .i64 l, .func (.func 71) #[] #[]] W fun e w' => e = .returned (.tuple #[]) ∧ w' = W := fun l W => by
    go_enter Tryz.func95, Tryz.ntmps95
    go_wp2_with fail
    refine wp_loop_rounds 1 ?_
    rw [rounds_succ]
    go_wp2_with (first | (go_at_call 123; refine (HI.out _).mono ?_; rintro e w1 ⟨rfl, rfl⟩))
    refine bodyPost_ret (results_none (h := Tryz.results95) _ _ _) rfl ?_
    exact ⟨rfl, rfl⟩
  have HP := hid hp
  clear hp
  go_enter Tryz.func70, Tryz.ntmps70
  go_wp2_with (first | (go_at_call 96; refine (Tryz.bits_Len 0 _ (by omega) (by omega)).mono ?_; rintro e w1 ⟨rfl, rfl⟩) | (go_at_call 95; refine (HP.out _ _).mono ?_; rintro e w1 ⟨rfl, rfl⟩))
  go_end0
  exact ⟨rfl, rfl⟩

/-- Sorted by stamp, then by key. -/
def SortN (l : List Fnd) : Prop := l.Pairwise fun a b => ltFd b a = false

/-- A row of finds, sorted in place. -/
theorem sortrowF_any {B : Nat} {w : World} {u : Value} {fs : List Fd} (h : KFd.Own B w u fs) (hl : fs.length ≤ 2400000000000) (hB : B ≤ w.heap.size) :
    Calls Tryz.prog 70 #[u, .func (.func 71) #[] #[]] w fun e w' => e = .returned (.tuple #[]) ∧ ∃ l : List Fd, KFd.Own B w' u l ∧ l.Perm fs ∧ SortN (l.map Fd.fnd) ∧ Fr (fun b => u.ownBlock = some b) w w' := by
  rcases h.2 with ⟨rfl, hz⟩ | ⟨g, cap, cur, rfl, _⟩
  · obtain rfl := List.length_eq_zero_iff.1 hz
    refine (sortfd_nil w).mono ?_
    rintro e w' ⟨rfl, rfl⟩
    exact ⟨rfl, [], h, List.Perm.refl _, List.Pairwise.nil, Fr.refl _ _⟩
  · have hge := Kind.own_ge h
    have hH : HoldsK encFd 7 w g 0 fs.toArray := Kind.own_holds h
    have := sortfd_any g 0 cap fs.toArray w hH hge.2.1 (by simp; omega)
    simp only [List.size_toArray] at this
    refine this.mono ?_
    rintro e w' ⟨rfl, d', n, os, hp, hs, rfl⟩
    obtain ⟨h1, _, h3⟩ := hp
    have hsz : d'.size = fs.length := by simpa using h1
    have hperm : d'.toList.Perm fs := by
      have e1 : (d'.extract 0 fs.length).toList = d'.toList := by rw [← hsz]; simp
      have e2 : (fs.toArray.extract 0 fs.length).toList = fs := by simp
      rw [e1, e2] at h3
      exact h3
    refine ⟨rfl, d'.toList, Kind.own_sorted h d' hsz n os, hperm, ?_, ?_⟩
    · refine List.pairwise_map.2 (List.pairwise_iff_getElem.2 fun i j hi hj hij => ?_)
      have hi' : i < d'.size := by simpa using hi
      have hj' : j < d'.size := by simpa using hj
      have := hs i j (Nat.zero_le _) hij (by omega)
      rw [getElem!_pos d' i hi', getElem!_pos d' j hj', cmpFd_lt] at this
      simpa using this
    · have hb := below_sortK encFd 7 (B := g) (Below.refl _ w) (by have := hge.2.1; omega) g 0 n d' os (Nat.le_refl _)
      refine ⟨hb.os, hb.tape, hb.output, hb.size, fun k hk hn => ?_⟩
      have hkg : k ≠ g := fun e => hn (by rw [e]; rfl)
      simp only [sortWorldK, Sort.grow, putRowK, putRow, mapBlock, Sort.ahead]
      rw [Array.getElem?_append_left (by simpa using hk), Array.getElem?_modify, if_neg (fun e => hkg e.symm)]

end Go.Proofs.YticfpkodoghnnaaGreat

/-
  Log of a directory (stage 7).
-/
namespace Go.Proofs.YticfpkodoghnnaaGreat
open Go.RowKit

/-- The versions above t of some keys. -/
def sinceL (D : List RowD) (t : Int) (ks : List Ky) : List Fnd := ks.flatMap fun k => (sinceV (ofD D k) t).map fun v => (k, v)

theorem sinceL_snoc (D : List RowD) (t : Int) (ks : List Ky) (k : Ky) : sinceL D t (ks ++ [k]) = sinceL D t ks ++ (sinceV (ofD D k) t).map fun v => (k, v) := by
  unfold sinceL
  rw [List.flatMap_append]
  simp

theorem sinceL_take (D : List RowD) (t : Int) (ks : List Ky) (i : Nat) : (sinceL D t (ks.take i)).length ≤ (sinceL D t ks).length := by
  have : sinceL D t ks = sinceL D t (ks.take i) ++ sinceL D t (ks.drop i) := by
    unfold sinceL
    rw [← List.flatMap_append, List.take_append_drop]
  rw [this, List.length_append]
  omega

theorem sinceL_len {D : List RowD} (h : OkD D) (t : Int) {ks : List Ky} (hn : ks.Nodup) (hk : ∀ k ∈ ks, ofD D k ≠ []) : (sinceL D t ks).length ≤ countD D := by
  have h1 : (sinceL D t ks).length ≤ (ks.map fun k => (ofD D k).length).sum := by
    unfold sinceL
    clear hn hk
    induction ks with
    | nil => simp
    | cons k ks ih =>
      rw [List.flatMap_cons, List.length_append, List.length_map, List.map_cons, List.sum_cons]
      have : (sinceV (ofD D k) t).length ≤ (ofD D k).length := by unfold sinceV; rw [List.length_drop]; omega
      omega
  exact Nat.le_trans h1 (seen_some h List.length hn hk)

theorem sinceL_keys {D : List RowD} (h : OkD D) (t : Int) (typ : ByteArray) : sinceL D t (keysD D typ) = sinceD D typ t := by
  have hof : ∀ r ∈ D, ofD D r.1 = r.2 := fun r hr => ofD_mem h hr
  unfold sinceL keysD sinceD
  generalize ofD D = F at hof
  clear h
  induction D with
  | nil => rfl
  | cons r d ih =>
    have ih' := ih fun x hx => hof x (List.mem_cons_of_mem _ hx)
    rw [List.map_cons, List.filter_cons, List.filter_cons]
    split
    · rw [List.flatMap_cons, List.flatMap_cons, ih', hof r List.mem_cons_self]
    · exact ih'

/-- What Log answers: the versions above t, by stamp, then by key. -/
def LogPost (W : World) (D : List RowD) (typ : ByteArray) (t : Int) (e : Ending) (w' : World) : Prop := ∃ r, FdPost W r e w' ∧ r.Perm (sinceD D typ t) ∧ SortN r

theorem since_one {D : List RowD} (h : OkD D) {typ : ByteArray} {t : Int} {a b : Fnd} (ha : a ∈ sinceD D typ t) (hb : b ∈ sinceD D typ t) (hk : a.1 = b.1) (hs : a.2.stamp = b.2.stamp) : a = b := by
  have hm : ∀ {x : Fnd}, x ∈ sinceD D typ t → x.2 ∈ ofD D x.1 := fun {x} hx => by
    unfold sinceD at hx
    obtain ⟨r, hr, hx⟩ := List.mem_flatMap.1 hx
    obtain ⟨v, hv, rfl⟩ := List.mem_map.1 hx
    rw [ofD_mem h (List.mem_filter.1 hr).1]
    exact since_mem hv
  have h1 := hm ha
  have h2 := hm hb
  rw [← hk] at h2
  have hr := (ofD_ok h a.1).rise
  obtain ⟨i, hi, e1⟩ := List.mem_iff_getElem.1 h1
  obtain ⟨j, hj, e2⟩ := List.mem_iff_getElem.1 h2
  have hij : i = j := by
    rcases Nat.lt_trichotomy i j with hlt | he | hlt
    · have := rise_lt hr hlt hj
      rw [e1, e2] at this
      omega
    · exact he
    · have := rise_lt hr hlt hi
      rw [e1, e2] at this
      omega
  subst hij
  exact Prod.ext hk (e1.symm.trans e2)

theorem log_uniq {D : List RowD} (h : OkD D) {typ : ByteArray} {t : Int} {r s : List Fnd} (hr : r.Perm (sinceD D typ t)) (hs : s.Perm (sinceD D typ t)) (h1 : SortN r) (h2 : SortN s) : r = s := by
  have hp := hr.trans hs.symm
  refine List.Perm.eq_of_pairwise (le := fun a b => ltFd b a = false) (fun a b ha hb hab hba => ?_) h1 h2 hp
  have ha' := hr.mem_iff.1 ha
  have hb' := hs.mem_iff.1 hb
  have n1 : ¬ ltFd b a = true := by rw [hab]; simp
  have n2 : ¬ ltFd a b = true := by rw [hba]; simp
  rw [ltFd_iff] at n1 n2
  have e1 : a.2.stamp = b.2.stamp := by
    rcases Int.lt_trichotomy a.2.stamp b.2.stamp with q | q | q
    · exact absurd (Or.inl q) n2
    · exact q
    · exact absurd (Or.inl q) n1
  rcases totK.tot a.1 b.1 with q | q | q
  · exact absurd (Or.inr ⟨e1, q⟩) n2
  · exact since_one h ha' hb' q e1
  · exact absurd (Or.inr ⟨e1.symm, q⟩) n1

/-! ## Memory -/

theorem own_beside {α : Type} {K : Kind α} {N M : Nat} {w w' : World} {v u : Value} {d : List α} {fs : List Fd} (h : K.Own N w v d) (h2 : KFd.Own M w u fs) (hg : w.grownBy w' u.ownBlock) (hT : K.T ≠ 70) : K.Own N w' v d :=
  (fr_row hg).row h fun k hk e => by
    obtain ⟨c1, h3⟩ := own_type h hk
    obtain ⟨c2, h4⟩ := own_type h2 e
    rw [h3] at h4
    injection h4 with h4
    injection h4 with _ h4 _
    exact hT h4

theorem ownJ_beside {N M : Nat} {w w' : World} {s u : Value} {o : List Fx} {fs : List Fd} (h : OwnJ N w s o) (h2 : KFd.Own M w u fs) (hg : w.grownBy w' u.ownBlock) : OwnJ N w' s o :=
  ownJ_fr h (fr_row hg) fun k hk e => by
    obtain ⟨c1, t1, h3, h5⟩ := ownJ_cells h hk
    obtain ⟨c2, h4⟩ := own_type h2 e
    rw [h3] at h4
    injection h4 with h4
    injection h4 with _ h4 _
    rcases h5 with h5 | h5
    · exact absurd (h5.symm.trans h4) (by decide)
    · exact absurd (h5.symm.trans h4) (by decide)

/-- Between two rounds of the loop over keys. -/
structure LgIn (W : World) (N : Nat) (vk : Value) (keys : List Ky) (fs : List Fd) (acc : List Fnd) (v : Value) (wr : World) : Prop where
  own : KFd.Own N wr v fs
  val : ∀ f ∈ fs, OwnJ N wr f.v.sl f.v.o ∧ mayB (f.v.o.map Fx.fld) = true
  eq : fs.map Fd.fnd = acc
  key : KK.Own N wr vk keys
  bel : Below N W wr

theorem LgIn.on {W : World} {N : Nat} {vk : Value} {keys : List Ky} {fs : List Fd} {acc : List Fnd} {v : Value} {wr W' : World} (h : LgIn W N vk keys fs acc v wr) (hs : N ≤ wr.heap.size) (hb : Below wr.heap.size wr W') : LgIn W N vk keys fs acc v W' :=
  ⟨Kind.own_on h.own hb, fun f hf => ⟨(h.val f hf).1.on hb, (h.val f hf).2⟩, h.eq, Kind.own_on h.key hb, bel_then h.bel hs hb⟩

theorem LgIn.len {W : World} {N : Nat} {vk : Value} {keys : List Ky} {fs : List Fd} {acc : List Fnd} {v : Value} {wr : World} (h : LgIn W N vk keys fs acc v wr) : fs.length = acc.length := by
  have := congrArg List.length h.eq
  simpa using this

/-- Between two rounds of the loop over a key's versions. -/
structure LgJ (W : World) (N : Nat) (vk : Value) (keys : List Ky) (Kb : Nat) (k : Ky) (u : Value) (o : List Vx) (fs : List Fd) (acc : List Fnd) (v : Value) (wr : World) : Prop where
  lg : LgIn W N vk keys fs acc v wr
  box : wr.heap[Kb]? = some (.cells #[.string k.1, .string k.2] 31 (0, 0))
  row : KV.Own N wr u o
  each : ∀ x ∈ o, OwnJ N wr x.sl x.o ∧ mayB (x.o.map Fx.fld) = true

theorem LgJ.on {W : World} {N : Nat} {vk : Value} {keys : List Ky} {Kb : Nat} {k : Ky} {u : Value} {o : List Vx} {fs : List Fd} {acc : List Fnd} {v : Value} {wr W' : World} (h : LgJ W N vk keys Kb k u o fs acc v wr) (hs : N ≤ wr.heap.size) (hb : Below wr.heap.size wr W') : LgJ W N vk keys Kb k u o fs acc v W' :=
  ⟨h.lg.on hs hb, (hb.block Kb (Array.getElem?_eq_some_iff.1 h.box).1).trans h.box, Kind.own_on h.row hb, fun x hx => ⟨(h.each x hx).1.on hb, (h.each x hx).2⟩⟩

theorem LgJ.push {W : World} {N : Nat} {vk : Value} {keys : List Ky} {Kb : Nat} {k : Ky} {u : Value} {o : List Vx} {fs : List Fd} {acc : List Fnd} {v v' : Value} {wr w1 : World} (h : LgJ W N vk keys Kb k u o fs acc v wr) (hs : N ≤ wr.heap.size) (hg : wr.grownBy w1 v.ownBlock) {x : Vx} (hx : x ∈ o)
    (ho : KFd.Own N w1 v' (fs ++ [⟨k.1, k.2, x⟩])) : LgJ W N vk keys Kb k u o (fs ++ [⟨k.1, k.2, x⟩]) (acc ++ [(k, x.ver)]) v' w1 := by
  have hbox : w1.heap[Kb]? = wr.heap[Kb]? := hg.block Kb (Array.getElem?_eq_some_iff.1 h.box).1 fun e => by
    obtain ⟨c, hc⟩ := own_type h.lg.own e.symm
    rw [h.box] at hc
    injection hc with hc
    injection hc with _ hc _
    exact absurd hc (by decide)
  refine ⟨⟨ho, fun f hf => ?_, by rw [List.map_append, h.lg.eq]; rfl, own_beside h.lg.key h.lg.own hg (by decide), h.lg.bel.trans ((fr_row hg).below hs fun b hb => (World.ownsRow.lt h.lg.own b hb).1)⟩, hbox.trans h.box, own_beside h.row h.lg.own hg (by decide), fun y hy => ⟨ownJ_beside (h.each y hy).1 h.lg.own hg, (h.each y hy).2⟩⟩
  rcases List.mem_append.1 hf with hf | hf
  · exact ⟨ownJ_beside (h.lg.val f hf).1 h.lg.own hg, (h.lg.val f hf).2⟩
  · rw [List.mem_singleton] at hf
    subst hf
    exact ⟨ownJ_beside (h.each x hx).1 h.lg.own hg, (h.each x hx).2⟩

end Go.Proofs.YticfpkodoghnnaaGreat

/-
  What the reads of the past answer (stage 14), without the program: of any directory; of one that was pruned; of one that was put to above the snapshot.
-/
namespace Go.Proofs.YticfpkodoghnnaaGreat

/-- What At answers: a version, and a code. -/
def pastAt (D : List RowD) (fl sn t : Int) (k : Ky) : Option Vr × Int := if t < fl then (none, 8) else match atV (ofD D k) (min t sn) with | some v => (some v, 0) | none => (none, 6)
/-- What Find answers. -/
def pastFind (D : List RowD) (fl sn t : Int) (typ : ByteArray) (P : List Fld → Bool) : List Fnd × Int := if t < fl then ([], 8) else (scanD D typ (min t sn) P, 0)
/-- What History answers. -/
def pastHist (D : List RowD) (fl sn : Int) (k : Ky) (s : Int) : List Vr × Int := if s < fl then ([], 8) else ((sinceV (ofD D k) s).filter (fun v => decide (v.stamp ≤ sn)), 0)
/-- L is what Since answers. -/
def PastSince (D : List RowD) (fl sn : Int) (typ : ByteArray) (s : Int) (L : List Fnd × Int) : Prop := if s < fl then L = ([], 8) else L.2 = 0 ∧ ∃ r : List Fnd, r.Perm (sinceD D typ s) ∧ SortN r ∧ L.1 = r.filter fun x => decide (x.2.stamp ≤ sn)

/-- Two logs, cut by one rule, are the same. -/
theorem log_uniq2 {D E : List RowD} (h : OkD D) {typ : ByteArray} {t : Int} {p : Fnd → Bool} {r s : List Fnd} (hr : r.Perm (sinceD D typ t)) (hs : s.Perm (sinceD E typ t)) (hp : ((sinceD D typ t).filter p).Perm ((sinceD E typ t).filter p)) (h1 : SortN r) (h2 : SortN s) : r.filter p = s.filter p := by
  have hp' : (r.filter p).Perm (s.filter p) := (hr.filter p).trans (hp.trans (hs.filter p).symm)
  refine List.Perm.eq_of_pairwise (le := fun a b => ltFd b a = false) (fun a b ha hb hab hba => ?_) (h1.filter p) (h2.filter p) hp'
  have ha' := hr.mem_iff.1 (List.mem_filter.1 ha).1
  have hb' := hr.mem_iff.1 (List.mem_filter.1 (hp'.mem_iff.2 hb)).1
  have n1 : ¬ ltFd b a = true := by rw [hab]; simp
  have n2 : ¬ ltFd a b = true := by rw [hba]; simp
  rw [ltFd_iff] at n1 n2
  have e1 : a.2.stamp = b.2.stamp := by
    rcases Int.lt_trichotomy a.2.stamp b.2.stamp with q | q | q
    · exact absurd (Or.inl q) n2
    · exact q
    · exact absurd (Or.inl q) n1
  have e2 : a.1 = b.1 := by
    rcases totK.tot a.1 b.1 with q | q | q
    · exact absurd (Or.inr ⟨e1, q⟩) n2
    · exact q
    · exact absurd (Or.inr ⟨e1.symm, q⟩) n1
  exact since_one h ha' hb' e2 e1

theorem since_uniq {D E : List RowD} (h : OkD D) {fl sn : Int} {typ : ByteArray} {s : Int} {L M : List Fnd × Int} (hL : PastSince D fl sn typ s L) (hM : PastSince E fl sn typ s M) (hp : ¬ s < fl → ((sinceD D typ s).filter fun x => decide (x.2.stamp ≤ sn)).Perm ((sinceD E typ s).filter fun x => decide (x.2.stamp ≤ sn))) : L = M := by
  unfold PastSince at hL hM
  by_cases hs : s < fl
  · rw [if_pos hs] at hL hM
    rw [hL, hM]
  · rw [if_neg hs] at hL hM
    obtain ⟨a1, r, a2, a3, a4⟩ := hL
    obtain ⟨b1, q, b2, b3, b4⟩ := hM
    have := log_uniq2 h a2 b2 (hp hs) a3 b3
    obtain ⟨L1, L2⟩ := L
    obtain ⟨M1, M2⟩ := M
    simp only at a1 a4 b1 b4
    rw [a1, a4, b1, b4, this]

/-! ## The vacuum is not seen -/

section
variable {F : Int} {D E : List RowD}
theorem vac_at (hE : OkD E) (h : SufD F D E) {fl sn : Int} (hf : F ≤ fl) (hs : F ≤ sn) (t : Int) (k : Ky) : pastAt D fl sn t k = pastAt E fl sn t k := by
  unfold pastAt
  by_cases ht : t < fl
  · rw [if_pos ht, if_pos ht]
  · rw [if_neg ht, if_neg ht, suf_at (ofD_ok hE k).rise (h k) (by omega)]
theorem vac_find (hD : OkD D) (hE : OkD E) (h : SufD F D E) {fl sn : Int} (hf : F ≤ fl) (hs : F ≤ sn) (t : Int) (typ : ByteArray) (P : List Fld → Bool) : pastFind D fl sn t typ P = pastFind E fl sn t typ P := by
  unfold pastFind
  by_cases ht : t < fl
  · rw [if_pos ht, if_pos ht]
  · rw [if_neg ht, if_neg ht, scan_ext hD hE (fun k => suf_at (ofD_ok hE k).rise (h k) (by omega)) typ P]
theorem vac_hist (hE : OkD E) (h : SufD F D E) {fl sn : Int} (hf : F ≤ fl) (s : Int) (k : Ky) : pastHist D fl sn k s = pastHist E fl sn k s := by
  unfold pastHist
  by_cases ht : s < fl
  · rw [if_pos ht, if_pos ht]
  · rw [if_neg ht, if_neg ht, suf_since (ofD_ok hE k).rise (h k) (by omega)]
theorem vac_since (hD : OkD D) (hE : OkD E) (h : SufD F D E) {fl sn : Int} (hf : F ≤ fl) {typ : ByteArray} {s : Int} {L M : List Fnd × Int} (hL : PastSince D fl sn typ s L) (hM : PastSince E fl sn typ s M) : L = M :=
  since_uniq hD hL hM fun hs => since_perm hD hE fun k v _ => by rw [suf_since (ofD_ok hE k).rise (h k) (by omega)]
end

theorem putC_last {l' l : List Vr} (h : lastV l' = lastV l) (stamp : Int) (live : Bool) (val : List Fld) : putC l' stamp live val = putC l stamp live val := by
  unfold putC putCode
  rw [h]
theorem sufD_put {F : Int} {D E : List RowD} (h : SufD F D E) (k : Ky) (stamp tick : Int) (live : Bool) (val : List Fld) : SufD F (putD D k stamp tick live val) (putD E k stamp tick live val) := by
  have hl := suf_last (h k)
  have hc : codeD D k stamp live val = codeD E k stamp live val := by
    unfold codeD
    rw [putC_last hl]
  unfold putD
  rw [hc]
  split
  · unfold putV
    rw [hl]
    exact sufD_set h k _
  · exact h

/-! ## What is put above the snapshot -/

/-- D is E with more versions behind, all above s. -/
def PreD (s : Int) (D E : List RowD) : Prop := ∀ k, PreV s (ofD D k) (ofD E k) ∧ (ofD E k = [] → ∀ f, (ofD D k).head? = some f → f.num = 1)
theorem preD_refl (s : Int) (D : List RowD) : PreD s D D := fun k => ⟨pre_refl s _, fun h f hf => by rw [h] at hf; cases hf⟩
theorem preD_put {s : Int} {D E : List RowD} (h : PreD s D E) (k : Ky) {stamp : Int} (hs : s < stamp) (tick : Int) (live : Bool) (val : List Fld) : PreD s (putD D k stamp tick live val) E := by
  unfold putD
  split
  · intro k'
    rw [setD_of]
    split
    · next e =>
      subst e
      refine ⟨pre_snoc (h _).1 hs, fun he f hf => ?_⟩
      cases hd : ofD D k' with
      | nil =>
        rw [hd] at hf
        unfold putV at hf
        rw [List.nil_append] at hf
        injection hf with hf
        rw [← hf]
        rfl
      | cons x l =>
        refine (h _).2 he f ?_
        rw [hd] at hf ⊢
        exact hf
    · exact h k'
  · exact h

section
variable {s : Int} {D E : List RowD}
theorem stay_at (hD : OkD D) (h : PreD s D E) (fl t : Int) (k : Ky) : pastAt D fl s t k = pastAt E fl s t k := by
  unfold pastAt
  rw [pre_at (ofD_ok hD k).rise (h k).1 (by omega)]
theorem stay_find (hD : OkD D) (hE : OkD E) (h : PreD s D E) (fl t : Int) (typ : ByteArray) (P : List Fld → Bool) : pastFind D fl s t typ P = pastFind E fl s t typ P := by
  unfold pastFind
  rw [scan_ext hD hE (fun k => pre_at (ofD_ok hD k).rise (h k).1 (by omega)) typ P]
theorem stay_hist (hD : OkD D) (h : PreD s D E) (fl t : Int) (k : Ky) : pastHist D fl s k t = pastHist E fl s k t := by
  unfold pastHist
  rw [pre_since (ofD_ok hD k).rise (h k).1]
theorem stay_since (hD : OkD D) (hE : OkD E) (h : PreD s D E) {fl : Int} {typ : ByteArray} {t : Int} {L M : List Fnd × Int} (hL : PastSince D fl s typ t L) (hM : PastSince E fl s typ t M) : L = M :=
  since_uniq hD hL hM fun _ => since_perm hD hE fun k v hv => by
    have hv' : decide (v.stamp ≤ s) = true := hv
    have e := pre_since (ofD_ok hD k).rise (h k).1 t
    have h1 : v ∈ (sinceV (ofD D k) t).filter (fun v => decide (v.stamp ≤ s)) ↔ v ∈ (sinceV (ofD E k) t).filter (fun v => decide (v.stamp ≤ s)) := by rw [e]
    rw [List.mem_filter, List.mem_filter] at h1
    exact ⟨fun q => (h1.1 ⟨q, hv'⟩).1, fun q => (h1.2 ⟨q, hv'⟩).1⟩
theorem stay_num (hD : OkD D) (h : PreD s D E) (k : Ky) (n : Int) : pastNum (ofD D k) s n = pastNum (ofD E k) s n := pre_pastNum (ofD_ok hD k) (h k).1 (h k).2 n
end

end Go.Proofs.YticfpkodoghnnaaGreat

/-
  The contract of the reference's May.
-/
namespace Go.Proofs.YticfpkodoghnnaaGreat
open Go.RowKit

theorem step_of {fs : List Fld} {i : Nat} {f : Fld} (h : fs.getD i default = f) (h1 : fieldB f.1.data.toList = true) (h2 : 0 < f.2.length) (h3 : f.2.length ≤ 8) (h4 : ∀ t ∈ f.2, t.size ≤ 128) (h5 : i = 0 ∨ ltN (fs.getD (i - 1) default).1 f.1 = true) : stepOk fs i = true := by
  unfold stepOk fitsB
  rw [h, h1, decide_eq_true h3]
  have e1 : f.2.isEmpty = false := by
    cases hf : f.2 with
    | nil => rw [hf] at h2; simp at h2
    | cons _ _ => rfl
  have e2 : f.2.any longB = false := by
    rw [List.any_eq_false]
    intro t ht
    have := h4 t ht
    unfold longB
    simpa using this
  rw [e1, e2]
  rcases h5 with h5 | h5
  · rw [decide_eq_true h5]; rfl
  · rw [h5]; simp

theorem step_not {fs : List Fld} {i : Nat} {f : Fld} (h : fs.getD i default = f) (hn : fieldB f.1.data.toList = false ∨ f.2.length = 0 ∨ 8 < f.2.length ∨ (∃ t ∈ f.2, 128 < t.size) ∨ (i ≠ 0 ∧ ltN (fs.getD (i - 1) default).1 f.1 = false)) : stepOk fs i = false := by
  unfold stepOk fitsB
  rw [h]
  rcases hn with hn | hn | hn | ⟨t, ht, hn⟩ | ⟨hn, hm⟩
  · rw [hn]; rfl
  · rw [List.length_eq_zero_iff] at hn
    rw [hn]; simp
  · rw [decide_eq_false (by omega)]; simp
  · have : f.2.any longB = true := by
      rw [List.any_eq_true]
      exact ⟨t, ht, by unfold longB; simpa using hn⟩
    rw [this]; simp
  · rw [decide_eq_false hn, hm]; simp

set_option maxHeartbeats 1000000 in
set_option maxRecDepth 100000 in
theorem rmay_any (v : Value) (d : List Fx) (w : World) (hv : IsXs w v d) (hf : FitX d) : Calls Tryz.prog 86 #[v] w fun e w' => e = .returned (.bool (mayB (d.map Fx.fld))) ∧ Grown w w' := by
  obtain ⟨p, cap, rfl, hd, ht⟩ := hv
  have HT := hid ht
  have HF := hid hf.2
  have hl := hf.1
  unfold maxLen at hl
  have HD := hid hd
  clear ht hf hd
  obtain ⟨r, hr⟩ : ∃ r, mayB (d.map Fx.fld) = r := ⟨_, rfl⟩
  rw [hr]
  have HR := hid hr
  clear hr
  go_enter Tryz.func86, Tryz.ntmps86
  go_wp2_with fail
  go_loopg [3] d.length (fun g vi wr => ∃ i : Nat, vi = .int .i64 i ∧ i ≤ d.length ∧ i ≤ 16 ∧ d.length - i ≤ g ∧ Grown w wr ∧ Hid (∀ j, j < i → stepOk (d.map Fx.fld) j = true))
  case atStart => exact ⟨0, rfl, by omega, by omega, by omega, Grown.refl _, fun j h => by omega⟩
  case round =>
    obtain ⟨i, rfl, hi, hi16, hg, hb, HJ⟩ := hrel
    by_cases hlt : i < d.length
    · have hltz : (i : Int) < (d.length : Int) := by omega
      have hiz : (0 : Int) ≤ i := by omega
      obtain ⟨b, off, rfl, hxs⟩ : ∃ b off, p = some ⟨b, off, none⟩ ∧ XsAt w b off d := by
        rcases HD.out with h | h
        · subst h; simp at hlt
        · exact h
      have hxr := hxs.kept hb.below
      obtain ⟨c0, c1⟩ := hxr i hlt
      have hxi : (d[i]).at wr := (HT.out _ (List.getElem_mem hlt)).kept hb.below
      have hfi := HF.out _ (List.getElem_mem hlt)
      have hsx := flds_at hlt
      obtain ⟨x, hx⟩ : ∃ x, d[i] = x := ⟨_, rfl⟩
      rw [hx] at c0 c1 hxi hfi hsx
      have HXR := hid hxr
      have HXI := hid hxi
      have hns : x.name.size ≤ maxLen := hfi.1
      have htl : x.txt.length ≤ maxLen := hfi.2.1
      unfold maxLen at htl
      have HNS := hid hns
      have HFI := hid hfi
      have HSX := hid hsx
      clear hxr hxs hxi hfi hx hsx hns
      unfold Fx.sl at c1
      have mixed := Tryz.mixed
      have HFX : Hid (∀ W, Calls Tryz.prog 110 #[.string x.name] W fun e w' => e = .returned (.bool (fieldB x.name.data.toList)) ∧ w' = W) := fun W => rfield_any x.name W HNS.out
      by_cases h16 : i = 16
      · subst h16
        have H0 : Hid (r = false) := HR.out.symm.trans (may_long (by rw [List.length_map]; omega))
        go_wp2_with fail
        go_quiet (fail)
        go_wp2_with fail
        go_ret
        exact ⟨ret_bool H0.out.symm, (hb.alloc _).drewN _⟩
      have h16z : decide ((16 : Int) ≤ (i : Int)) = false := decide_eq_false (by omega)
      cases hfx : fieldB x.name.data.toList with
      | false =>
        rw [hfx] at HFX
        have H0 : Hid (r = false) := HR.out.symm.trans (may_no (i := i) (by rw [List.length_map]; exact hlt) (step_not HSX.out (Or.inl hfx)))
        go_wp2_with fail
        refine wp_region_quiet_lit mixed (by kernel_rfl) ?_
        repeat (go_big_quiet_step (first | (go_at_call 110; refine Calls.quiet_of_same (HFX.out _))))
        refine wpQuiet_nil ?_
        intro _ hw'
        obtain ⟨nq, hw''⟩ := hw'
        subst hw''
        go_wp2_with fail
        go_ret
        exact ⟨ret_bool H0.out.symm, (hb.alloc _).drewN _⟩
      | true =>
        rw [hfx] at HFX
        by_cases h0 : i = 0
        · have h0z : decide ((0 : Int) < (i : Int)) = false := decide_eq_false (by omega)
          have h0y : decide (0 < i) = false := decide_eq_false (by omega)
          have H00 := hid h0
          clear h0
          by_cases ht0 : x.txt.length = 0
          · have ht0z : (x.txt.length : Int) = 0 := by omega
            have H0 : Hid (r = false) := HR.out.symm.trans (may_no (i := i) (by rw [List.length_map]; exact hlt) (step_not HSX.out (Or.inr (Or.inl ht0))))
            go_wp2_with fail
            refine wp_region_quiet_lit mixed (by kernel_rfl) ?_
            repeat (go_big_quiet_step (first | (go_at_call 110; refine Calls.quiet_of_same (HFX.out _))))
            refine wpQuiet_nil ?_
            intro _ hw'
            obtain ⟨nq, hw''⟩ := hw'
            subst hw''
            go_wp2_with fail
            go_ret
            exact ⟨ret_bool H0.out.symm, (hb.alloc _).drewN _⟩
          have ht0z : ¬ (x.txt.length : Int) = 0 := by omega
          have ht0d : ((x.txt.length : Int) == 0) = false := beq_eq_false_iff_ne.2 ht0z
          by_cases ht8 : 8 < x.txt.length
          · have ht8z : (8 : Int) < (x.txt.length : Int) := by omega
            have H0 : Hid (r = false) := HR.out.symm.trans (may_no (i := i) (by rw [List.length_map]; exact hlt) (step_not HSX.out (Or.inr (Or.inr (Or.inl ht8)))))
            go_wp2_with fail
            refine wp_region_quiet_lit mixed (by kernel_rfl) ?_
            repeat (go_big_quiet_step (first | (go_at_call 110; refine Calls.quiet_of_same (HFX.out _))))
            refine wpQuiet_nil ?_
            intro _ hw'
            obtain ⟨nq, hw''⟩ := hw'
            subst hw''
            go_wp2_with fail
            go_ret
            exact ⟨ret_bool H0.out.symm, (hb.alloc _).drewN _⟩
          have ht8z : decide ((8 : Int) < (x.txt.length : Int)) = false := decide_eq_false (by omega)
          have HST : Hid ((∀ t ∈ x.txt, t.size ≤ 128) → stepOk (d.map Fx.fld) (i) = true) := fun h => step_of HSX.out hfx (by show 0 < x.txt.length; omega) (by show x.txt.length ≤ 8; omega) h (Or.inl H00.out)
          obtain ⟨bt, ot, hpt, hct0⟩ : ∃ bt ot, x.p = some ⟨bt, ot, none⟩ ∧ ∀ l, (h : l < x.txt.length) → wr.cell? ⟨bt, ot + l, none⟩ = some (.string x.txt[l]) := by
            rcases HXI.out with h | h
            · exact absurd (by rw [h]; rfl) ht0
            · exact h
          have HCT0 := hid hct0
          rw [hpt] at c1
          clear hpt hct0
          go_wp2_with fail
          refine wp_region_quiet_lit mixed (by kernel_rfl) ?_
          repeat (go_big_quiet_step (first | (go_at_call 110; refine Calls.quiet_of_same (HFX.out _))))
          refine wpQuiet_nil ?_
          intro _ hw'
          obtain ⟨nq, hw''⟩ := hw'
          subst hw''
          go_wp2_with fail
          obtain ⟨W2, hW2⟩ : ∃ W2, (wr.alloc (.cells #[.string x.name, .slice (some ⟨bt, ot, none⟩) x.txt.length x.cap] 107)).drewN nq = W2 := ⟨_, rfl⟩
          have hgW : Grown wr W2 := by rw [← hW2]; exact ((Grown.refl wr).alloc _).drewN _
          have q1 : W2.cell? ⟨wr.heap.size, 1, none⟩ = some (.slice (some ⟨bt, ot, none⟩) x.txt.length x.cap) := by rw [← hW2]; exact (x_new wr ⟨x.name, some ⟨bt, ot, none⟩, x.cap, x.txt⟩ (wr.alloc _) (Below.refl _ _)).2
          have hat : ∀ l, (h : l < x.txt.length) → W2.cell? ⟨bt, ot + l, none⟩ = some (.string x.txt[l]) := fun l h => (hgW.below.cell (p := ⟨bt, ot + l, none⟩) (cell_block (HCT0.out l h))).trans (HCT0.out l h)
          have HGW := hid hgW
          have HAT := hid hat
          rw [hW2]
          clear hgW hat hW2
          go_loopg [5] x.txt.length (fun g vj W => ∃ j : Nat, vj = .int .i64 j ∧ j ≤ x.txt.length ∧ x.txt.length - j ≤ g ∧ W = W2 ∧ Hid (∀ l (h : l < x.txt.length), l < j → (x.txt[l]).size ≤ 128))
          case atStart => exact ⟨0, rfl, by omega, by omega, rfl, fun l _ h => by omega⟩
          case round =>
            obtain ⟨j, rfl, hj, hgj, rfl, HL⟩ := hrel
            by_cases hjl : j < x.txt.length
            · have hjz : (j : Int) < (x.txt.length : Int) := by omega
              have hj0 : (0 : Int) ≤ (j : Int) := by omega
              have ctj := HAT.out j hjl
              obtain ⟨t, htt⟩ : ∃ t, x.txt[j] = t := ⟨_, rfl⟩
              have HTT := hid htt
              rw [htt] at ctj
              clear htt
              by_cases hts : 128 < t.size
              · have htsz : (128 : Int) < (t.size : Int) := by omega
                have H0 : Hid (r = false) := HR.out.symm.trans (may_no (i := i) (by rw [List.length_map]; exact hlt) (step_not HSX.out (Or.inr (Or.inr (Or.inr (Or.inl ⟨t, by rw [← HTT.out]; exact List.getElem_mem hjl, hts⟩))))))
                go_wp2_with fail
                go_ret
                exact ⟨ret_bool H0.out.symm, hb.trans HGW.out⟩
              · have htsz : ¬ (128 : Int) < (t.size : Int) := by omega
                go_wp2_with fail
                go_roundg (x.txt.length - (j + 1))
                case measure => omega
                refine ⟨j + 1, by go_num, by omega, by omega, rfl, fun l hl hlj => ?_⟩
                by_cases e : l = j
                · subst e; rw [HTT.out]; omega
                · exact HL.out l hl (by omega)
            · have hjz : ¬ (j : Int) < (x.txt.length : Int) := by omega
              have H1 := hid (HST.out fun t ht => by
                obtain ⟨l, hl, rfl⟩ := List.mem_iff_getElem.1 ht
                exact HL.out l hl (by omega))
              go_wp2_with fail
              go_roundg (d.length - (i + 1))
              case measure => omega
              refine ⟨i + 1, by go_num, by omega, by omega, by omega, hb.trans HGW.out, fun l hl => ?_⟩
              by_cases e : l = i
              · subst e; exact H1.out
              · exact HJ.out l (by omega)
        · obtain ⟨k, rfl⟩ : ∃ k, i = k + 1 := ⟨i - 1, by omega⟩
          obtain ⟨e0, _⟩ := HXR.out k (by omega)
          have hsy := flds_at (d := d) (i := k) (by omega)
          obtain ⟨y, hy⟩ : ∃ y, d[k] = y := ⟨_, rfl⟩
          rw [hy] at e0 hsy
          have HSY := hid hsy
          clear hy hsy
          have k1 : (0 : Int) < (k : Int) + 1 := by omega
          have hltk : (k : Int) + 1 < (d.length : Int) := by omega
          have h16y : decide ((16 : Int) ≤ (k : Int) + 1) = false := decide_eq_false (by omega)
          have k2 : (0 : Int) ≤ (k : Int) := by omega
          have k3 : (k : Int) < (d.length : Int) := by omega
          have e1 : ∀ o, (wr.alloc o).cell? ⟨b, off + k * 2, none⟩ = some (.string y.name) := fun o => by
            rw [← e0]; exact ((Below.refl wr.heap.size wr).alloc (Nat.le_refl _) _).cell (p := ⟨b, off + k * 2, none⟩) (cell_block e0)
          cases hlt2 : Op.bytesLess y.name.toList x.name.toList with
          | false =>
            have H0 : Hid (r = false) := HR.out.symm.trans (may_no (i := k + 1) (by rw [List.length_map]; exact hlt) (step_not HSX.out (Or.inr (Or.inr (Or.inr (Or.inr ⟨by omega, by rw [Nat.add_sub_cancel, HSY.out]; exact hlt2⟩))))))
            go_wp2_with fail
            refine wp_region_quiet_lit mixed (by kernel_rfl) ?_
            repeat (go_big_quiet_step (first | (go_at_call 110; refine Calls.quiet_of_same (HFX.out _))))
            refine wpQuiet_nil ?_
            intro _ hw'
            obtain ⟨nq, hw''⟩ := hw'
            subst hw''
            go_wp2_with fail
            go_ret
            exact ⟨ret_bool H0.out.symm, (hb.alloc _).drewN _⟩
          | true =>
            by_cases ht0 : x.txt.length = 0
            · have ht0z : (x.txt.length : Int) = 0 := by omega
              have H0 : Hid (r = false) := HR.out.symm.trans (may_no (i := k + 1) (by rw [List.length_map]; exact hlt) (step_not HSX.out (Or.inr (Or.inl ht0))))
              go_wp2_with fail
              refine wp_region_quiet_lit mixed (by kernel_rfl) ?_
              repeat (go_big_quiet_step (first | (go_at_call 110; refine Calls.quiet_of_same (HFX.out _))))
              refine wpQuiet_nil ?_
              intro _ hw'
              obtain ⟨nq, hw''⟩ := hw'
              subst hw''
              go_wp2_with fail
              go_ret
              exact ⟨ret_bool H0.out.symm, (hb.alloc _).drewN _⟩
            have ht0z : ¬ (x.txt.length : Int) = 0 := by omega
            have ht0d : ((x.txt.length : Int) == 0) = false := beq_eq_false_iff_ne.2 ht0z
            by_cases ht8 : 8 < x.txt.length
            · have ht8z : (8 : Int) < (x.txt.length : Int) := by omega
              have H0 : Hid (r = false) := HR.out.symm.trans (may_no (i := k + 1) (by rw [List.length_map]; exact hlt) (step_not HSX.out (Or.inr (Or.inr (Or.inl ht8)))))
              go_wp2_with fail
              refine wp_region_quiet_lit mixed (by kernel_rfl) ?_
              repeat (go_big_quiet_step (first | (go_at_call 110; refine Calls.quiet_of_same (HFX.out _))))
              refine wpQuiet_nil ?_
              intro _ hw'
              obtain ⟨nq, hw''⟩ := hw'
              subst hw''
              go_wp2_with fail
              go_ret
              exact ⟨ret_bool H0.out.symm, (hb.alloc _).drewN _⟩
            have ht8z : decide ((8 : Int) < (x.txt.length : Int)) = false := decide_eq_false (by omega)
            have HST : Hid ((∀ t ∈ x.txt, t.size ≤ 128) → stepOk (d.map Fx.fld) (k + 1) = true) := fun h => step_of HSX.out hfx (by show 0 < x.txt.length; omega) (by show x.txt.length ≤ 8; omega) h (Or.inr (by rw [Nat.add_sub_cancel, HSY.out]; exact hlt2))
            obtain ⟨bt, ot, hpt, hct0⟩ : ∃ bt ot, x.p = some ⟨bt, ot, none⟩ ∧ ∀ l, (h : l < x.txt.length) → wr.cell? ⟨bt, ot + l, none⟩ = some (.string x.txt[l]) := by
              rcases HXI.out with h | h
              · exact absurd (by rw [h]; rfl) ht0
              · exact h
            have HCT0 := hid hct0
            rw [hpt] at c1
            clear hpt hct0
            go_wp2_with fail
            refine wp_region_quiet_lit mixed (by kernel_rfl) ?_
            repeat (go_big_quiet_step (first | (go_at_call 110; refine Calls.quiet_of_same (HFX.out _))))
            refine wpQuiet_nil ?_
            intro _ hw'
            obtain ⟨nq, hw''⟩ := hw'
            subst hw''
            go_wp2_with fail
            obtain ⟨W2, hW2⟩ : ∃ W2, (wr.alloc (.cells #[.string x.name, .slice (some ⟨bt, ot, none⟩) x.txt.length x.cap] 107)).drewN nq = W2 := ⟨_, rfl⟩
            have hgW : Grown wr W2 := by rw [← hW2]; exact ((Grown.refl wr).alloc _).drewN _
            have q1 : W2.cell? ⟨wr.heap.size, 1, none⟩ = some (.slice (some ⟨bt, ot, none⟩) x.txt.length x.cap) := by rw [← hW2]; exact (x_new wr ⟨x.name, some ⟨bt, ot, none⟩, x.cap, x.txt⟩ (wr.alloc _) (Below.refl _ _)).2
            have hat : ∀ l, (h : l < x.txt.length) → W2.cell? ⟨bt, ot + l, none⟩ = some (.string x.txt[l]) := fun l h => (hgW.below.cell (p := ⟨bt, ot + l, none⟩) (cell_block (HCT0.out l h))).trans (HCT0.out l h)
            have HGW := hid hgW
            have HAT := hid hat
            rw [hW2]
            clear hgW hat hW2
            go_loopg [5] x.txt.length (fun g vj W => ∃ j : Nat, vj = .int .i64 j ∧ j ≤ x.txt.length ∧ x.txt.length - j ≤ g ∧ W = W2 ∧ Hid (∀ l (h : l < x.txt.length), l < j → (x.txt[l]).size ≤ 128))
            case atStart => exact ⟨0, rfl, by omega, by omega, rfl, fun l _ h => by omega⟩
            case round =>
              obtain ⟨j, rfl, hj, hgj, rfl, HL⟩ := hrel
              by_cases hjl : j < x.txt.length
              · have hjz : (j : Int) < (x.txt.length : Int) := by omega
                have hj0 : (0 : Int) ≤ (j : Int) := by omega
                have ctj := HAT.out j hjl
                obtain ⟨t, htt⟩ : ∃ t, x.txt[j] = t := ⟨_, rfl⟩
                have HTT := hid htt
                rw [htt] at ctj
                clear htt
                by_cases hts : 128 < t.size
                · have htsz : (128 : Int) < (t.size : Int) := by omega
                  have H0 : Hid (r = false) := HR.out.symm.trans (may_no (i := k + 1) (by rw [List.length_map]; exact hlt) (step_not HSX.out (Or.inr (Or.inr (Or.inr (Or.inl ⟨t, by rw [← HTT.out]; exact List.getElem_mem hjl, hts⟩))))))
                  go_wp2_with fail
                  go_ret
                  exact ⟨ret_bool H0.out.symm, hb.trans HGW.out⟩
                · have htsz : ¬ (128 : Int) < (t.size : Int) := by omega
                  go_wp2_with fail
                  go_roundg (x.txt.length - (j + 1))
                  case measure => omega
                  refine ⟨j + 1, by go_num, by omega, by omega, rfl, fun l hl hlj => ?_⟩
                  by_cases e : l = j
                  · subst e; rw [HTT.out]; omega
                  · exact HL.out l hl (by omega)
              · have hjz : ¬ (j : Int) < (x.txt.length : Int) := by omega
                have H1 := hid (HST.out fun t ht => by
                  obtain ⟨l, hl, rfl⟩ := List.mem_iff_getElem.1 ht
                  exact HL.out l hl (by omega))
                go_wp2_with fail
                go_roundg (d.length - (k + 1 + 1))
                case measure => omega
                refine ⟨k + 1 + 1, by go_num, by omega, by omega, by omega, hb.trans HGW.out, fun l hl => ?_⟩
                by_cases e : l = k + 1
                · subst e; exact H1.out
                · exact HJ.out l (by omega)
    · have hltz : ¬ (i : Int) < (d.length : Int) := by omega
      have H0 : Hid (r = true) := HR.out.symm.trans (may_yes (by rw [List.length_map]; omega) (fun j hj => HJ.out j (by rw [List.length_map] at hj; omega)))
      go_wp2_with fail
      go_ret
      exact ⟨ret_bool H0.out.symm, hb⟩

end Go.Proofs.YticfpkodoghnnaaGreat

/-
  The reference's chain (stage 6): Add.
-/
namespace Go.Proofs.YticfpkodoghnnaaGreat
open Go.RowKit

/-- The chain's second cell is as it was. -/
def Gn (w w' : World) (g : Nat) : Prop := ∀ u, w.cell? ⟨g, 1, none⟩ = some u → w.frozen? ⟨g, 1, none⟩ = false → w'.cell? ⟨g, 1, none⟩ = some u ∧ w'.frozen? ⟨g, 1, none⟩ = false

theorem Gn.below {w w' : World} {g : Nat} (hb : Below w.heap.size w w') : Gn w w' g := fun _ h1 h2 =>
  ⟨(hb.cell (p := ⟨g, 1, none⟩) (cell_block h1)).trans h1, (World.frozen?_of_block (a := ⟨g, 1, none⟩) (hb.block g (cell_block h1))).trans h2⟩

theorem gn_push {n0 : Nat} {w W w4 : World} {g : Nat} {d : List Vx} {vs : Value} (hC : PrgC n0 w g d vs) (hb : Below w.heap.size w W) (hg : W.grownBy w4 vs.ownBlock) (v : Value) : Gn w (w4.setCell ⟨g, 0, none⟩ v) g := fun u h1 h2 => by
  obtain ⟨h3, h4⟩ := Gn.below (g := g) hb u h1 h2
  have hlt : g < W.heap.size := cell_block h3
  have e : w4.heap[g]? = W.heap[g]? := hg.block g hlt fun e => hC.off g (Or.inl e.symm) rfl
  have c4 : w4.cell? ⟨g, 1, none⟩ = some u := (World.cell?_of_block (a := ⟨g, 1, none⟩) e).trans h3
  have z4 : w4.frozen? ⟨g, 1, none⟩ = false := (World.frozen?_of_block (a := ⟨g, 1, none⟩) e).trans h4
  exact ⟨by simp [go_sem, c4], by simp [go_sem, z4]⟩

set_option maxHeartbeats 4000000 in
set_option maxRecDepth 100000 in
theorem radd_any {n0 : Nat} {w : World} {g : Nat} {d : List Vx} {vs : Value} (hC : PrgC n0 w g d vs) (hnum : (lastV (d.map Vx.ver)).num = (d.length : Int)) (stamp tick : Int) (live : Bool) (v : Value) (e : List Fx) (val : List Fld) (hv : IsXs w v e) (hf : FitX e) (hval : e.map Fx.fld = val) (h0 : 0 ≤ stamp) (htop : (lastV (d.map Vx.ver)).num < 2400000000000) :
    Calls Tryz.prog 59 #[.pointer (some ⟨g, 0, none⟩), .int .u64 stamp, .int .i64 tick, .bool live, v] w fun r w' =>
      r = .returned (.tuple #[.int .i64 (putN (d.map Vx.ver) stamp live val), .int .i64 (putC (d.map Vx.ver) stamp live val)]) ∧ TurnC n0 w g d vs (putL (d.map Vx.ver) stamp tick live val) w' ∧ Gn w w' g := by
  have HBX : Hid (Below w.heap.size w (w.alloc (.cells #[.int .i64 0, .int .u64 0, .int .i64 0, .bool false, .slice none 0 0] 39))) := (Below.refl _ _).alloc (Nat.le_refl _) _
  have hC1 := hC.on HBX.out
  have HC := hid hC
  have hfew := hC.few
  obtain ⟨p, cap, rfl⟩ := Kind.own_shape hC.row
  have c0 := hC1.cell
  have hge := last_ge hC.ok
  have hls : (lastX d).stamp = (lastV (d.map Vx.ver)).stamp := by rw [← lastX_ver]; rfl
  have hll : (lastX d).live = (lastV (d.map Vx.ver)).live := by rw [← lastX_ver]; rfl
  have hln : (lastX d).num = (d.length : Int) := by rw [← hnum, ← lastX_ver]; rfl
  have HA := hid (last_at hC1)
  have HGE : Hid (0 ≤ (lastX d).stamp) := by show 0 ≤ (lastX d).stamp; rw [hls]; exact hge
  have HCODE : Hid (((lastX d).stamp < stamp ∧ putC (d.map Vx.ver) stamp live val = if live = true ∧ mayB val = false then 3 else if live = false ∧ (lastX d).live = false then 6 else 0) ∨ (stamp ≤ (lastX d).stamp ∧ putC (d.map Vx.ver) stamp live val = 8)) := by
    rcases Int.lt_or_le (lastX d).stamp stamp with h | h
    · left
      refine ⟨h, ?_⟩
      rw [pc_at hge (by rw [← hls]; omega), hll]
    · exact Or.inr ⟨h, pc_old (by rw [← hls]; exact h)⟩
  have HYES : Hid (∀ (W w4 : World) (b c : Nat) (pu : Option Addr) (cu : Nat) (o : List Fx), putC (d.map Vx.ver) stamp live val = 0 → Below w.heap.size w W → OwnJ w.heap.size W (.slice pu o.length cu) o → mayB (o.map Fx.fld) = true → o.map Fx.fld = (if live = true then val else []) → KV.Own n0 w4 (.slice (some ⟨b, 0, none⟩) (d.length + 1) c) (d ++ [⟨(d.length : Int) + 1, stamp, tick, live, pu, cu, o⟩]) → W.grownBy w4 (Value.slice p d.length cap).ownBlock → ((Value.slice p d.length cap).ownBlock = some b ∨ w.heap.size ≤ b) → Value.tuple #[.int .i64 ((d.length : Int) + 1), .int .i64 0] = Value.tuple #[.int .i64 (putN (d.map Vx.ver) stamp live val), .int .i64 (putC (d.map Vx.ver) stamp live val)] ∧ TurnC n0 w g d (.slice p d.length cap) (putL (d.map Vx.ver) stamp tick live val) (w4.setCell ⟨g, 0, none⟩ (.slice (some ⟨b, 0, none⟩) (d.length + 1) c)) ∧ Gn w (w4.setCell ⟨g, 0, none⟩ (.slice (some ⟨b, 0, none⟩) (d.length + 1) c)) g) := fun W w4 b c pu cu o hc hb hj hm hv' ho hg hat => by
    have hgn := gn_push hC hb hg (.slice (some ⟨b, 0, none⟩) (d.length + 1) c)
    rw [← hln] at ho ⊢
    have hpy := put_yes (W := W) (w4 := w4) hC (tick := tick) h0 hc htop hb (pu := pu) (cu := cu) (o := o) hj hm hv' ho hg hat
    exact ⟨hpy.1, hpy.2, hgn⟩
  have HMAY : Hid (∀ W, Below w.heap.size w W → Calls Tryz.prog 86 #[v] W fun r w' => r = .returned (.bool (mayB val)) ∧ Grown W w') := fun W hW => by
    have := rmay_any v e W (hv.kept hW) hf
    rw [hval] at this
    exact this
  have HCOPY : Hid (mayB val = true → ∀ W, Below w.heap.size w W → Calls Tryz.prog 87 #[v] W fun r w' => ∃ u o, r = .returned u ∧ OwnJ W.heap.size w' u o ∧ o.map Fx.fld = val ∧ Below W.heap.size W w') := fun hm W hW => by
    have := fields_any v e W (hv.kept hW) hf (may_fit (by rw [hval]; exact hm)).2
    rw [hval] at this
    exact this
  have HPC : Hid (∀ W, Below w.heap.size w W → W.cell? ⟨g, 0, none⟩ = some (.slice p d.length cap) ∧ W.frozen? ⟨g, 0, none⟩ = false) := fun W hW => ⟨(hC.on hW).cell, (hC.on hW).free⟩
  obtain ⟨vp, vc, rfl, _⟩ := hv
  clear hC1 hC hls hll hln hge htop hval hf hnum
  obtain ⟨N, hN⟩ : ∃ N, w.heap.size = N := ⟨_, rfl⟩
  obtain ⟨L, hL⟩ : ∃ L, lastX d = L := ⟨_, rfl⟩
  rw [hL] at HA HCODE HGE
  clear hL
  have HVL : Hid (VerAt (w.alloc (.cells (encVx L).toArray 39)) N L) := by rw [← hN]; exact heap_alloc_new w _
  have HBL : Hid (Below w.heap.size w (w.alloc (.cells (encVx L).toArray 39))) := (Below.refl _ _).alloc (Nat.le_refl _) _
  obtain ⟨xn, xs, xt, xl, xp, xc, xo⟩ := L
  simp only [encVx, Vx.sl] at HBL HVL HCODE HGE
  go_enter Tryz.func59, Tryz.ntmps59
  go_upto_if 20 with fail
  try rw [hN]
  go_cut [12] from 20 (fun p12 wx => p12 = .pointer (some ⟨N, 0, none⟩) ∧ Hid (VerAt wx N ⟨xn, xs, xt, xl, xp, xc, xo⟩ ∧ Below w.heap.size w wx))
  case first =>
    rcases HA.out with ⟨rfl, hz⟩ | ⟨b1, k, hk, rfl, y0, y1, y2, y3, y4⟩
    · cases hz
      have e0 : ([] : List Vx).length = 0 := rfl
      go_wp2_with fail
      go_meet
      case rel => exact ⟨rfl, HVL.out, HBL.out⟩
    · simp only [Vx.sl] at y4
      have k0 : (0 : Int) ≤ (k : Int) := by omega
      have k1 : (k : Int) < (d.length : Int) := by omega
      have kp : (0 : Int) < (d.length : Int) := by omega
      have kz : (d.length : Int) - 1 = (k : Int) := by omega
      have kw : wrap64 ((d.length : Int) - 1) = (k : Int) := by simp [wrap64]; omega
      have kw' : wrap64 (k : Int) = (k : Int) := by simp [wrap64]; omega
      have kw2 : IntKind.i64.wrap ((d.length : Int) - 1) = (k : Int) := by rw [IntKind.wrap_i64]; omega
      have kw3 : IntKind.i64.wrap (k : Int) = (k : Int) := by rw [IntKind.wrap_i64]; omega
      clear hk
      clear HYES HMAY HCOPY HPC HCODE
      go_wp2_with fail
      go_region
      all_goals
        go_wp2_with fail
        go_meet
        case rel => exact ⟨rfl, HVL.out, HBL.out.drew⟩
  case rest =>
    obtain ⟨rfl, HR⟩ := hcut
    clear HA HVL HBL HBX c0
    obtain ⟨l0, l1, l2, l3, l4⟩ := HR.out.1.cells
    simp only [Nat.zero_add, Vx.sl] at l1 l2 l3 l4
    obtain ⟨cL, zL⟩ := HPC.out wc HR.out.2
    rcases HCODE.out with ⟨hs, hcode⟩ | ⟨hs, hcode⟩
    · have hs' : ¬ stamp ≤ xs := by omega
      have hs0 : (stamp == 0) = false := by
        rw [beq_eq_false_iff_ne]
        intro e2
        have h2 := HGE.out
        omega
      cases live with
      | true =>
        cases hmay : mayB val with
        | false =>
          have H3 : Hid (putC (d.map Vx.ver) stamp true val = 3) := by
            rw [if_pos ⟨rfl, hmay⟩] at hcode
            exact hcode
          have HM := hid (HMAY.out wc HR.out.2)
          rw [hmay] at HM
          clear HCODE HYES HMAY HCOPY hmay hcode
          go_wp2_with fail
          refine HM.out.mono ?_
          rintro r w2 ⟨rfl, hg2⟩
          have HB2 := hid (bel_then HR.out.2 HR.out.2.size hg2.below)
          clear hg2 HM l0 l1 l2 l3 l4 cL zL
          go_wp2_with fail
          go_ret2
          have := put_no (tick := tick) HC.out H3.out (by decide) HB2.out
          exact ⟨congrArg Ending.returned this.1, this.2, Gn.below HB2.out⟩
        | true =>
          have H3 : Hid (putC (d.map Vx.ver) stamp true val = 0) := by
            rw [if_neg (by rw [hmay]; simp), if_neg (by simp)] at hcode
            exact hcode
          have HMV := hid hmay
          have HM := hid (HMAY.out wc HR.out.2)
          rw [hmay] at HM
          have HCOPY := hid (HCOPY.out hmay)
          clear HCODE HMAY hmay hcode
          go_wp2_with fail
          refine HM.out.mono ?_
          rintro r w2 ⟨rfl, hg2⟩
          have hb2 := hg2.below
          have hBL2 := bel_then HR.out.2 HR.out.2.size hb2
          obtain ⟨l0', l1', l2', l3', l4'⟩ := (HR.out.1.on hb2).cells
          simp only [Nat.zero_add, Vx.sl] at l1' l2' l3' l4'
          obtain ⟨cL', zL'⟩ := HPC.out w2 hBL2
          obtain ⟨M, hM⟩ : ∃ M, w2.heap.size = M := ⟨_, rfl⟩
          have hNM : w.heap.size ≤ M := by have := hBL2.size; omega
          have HB3 : Hid (Below w.heap.size w (w2.alloc (.cells #[.int .i64 ((d.length : Int) + 1), .int .u64 stamp, .int .i64 tick, .bool true, .slice none 0 0] 39))) := hBL2.alloc hBL2.size _
          have HCP := hid (HCOPY.out _ HB3.out)
          have HX3 : Hid (VerAt (w2.alloc (.cells #[.int .i64 ((d.length : Int) + 1), .int .u64 stamp, .int .i64 tick, .bool true, .slice none 0 0] 39)) M ⟨(d.length : Int) + 1, stamp, tick, true, none, 0, []⟩) := by
            rw [← hM]; exact heap_alloc_new w2 _
          have hs3 : (w2.alloc (.cells #[.int .i64 ((d.length : Int) + 1), .int .u64 stamp, .int .i64 tick, .bool true, .slice none 0 0] 39)).heap.size = M + 1 := by simp [hM]
          clear hg2 hb2 hBL2 HM HCOPY l0 l1 l2 l3 l4 cL zL
          go_wp2_with fail
          refine HCP.out.mono ?_
          rintro r w4 ⟨u, o, rfl, hJ, hmo, hb4⟩
          obtain ⟨pu, cu, rfl⟩ := ownJ_slice hJ
          have hX4 := HX3.out.on hb4
          obtain ⟨m0, m1, m2, m3, m4'⟩ := hX4.cells
          have m4 : w4.cell? ⟨M, 4, none⟩ = some (.slice none 0 0) := by simpa [Vx.sl] using m4'
          simp only [Nat.zero_add] at m1 m2 m3
          have f4 := hX4.free 4
          obtain ⟨W5, hW5⟩ : ∃ W5, w4.setCell ⟨M, 4, none⟩ (.slice pu o.length cu) = W5 := ⟨_, rfl⟩
          obtain ⟨S5, hS5⟩ : ∃ S5, W5.heap.size = S5 := ⟨_, rfl⟩
          have hb34 : Below w.heap.size w w4 := bel_then HB3.out HB3.out.size hb4
          have hb5 : Below w.heap.size w W5 := by rw [← hW5]; exact hb34.setCell hNM _
          have hX5 : VerAt W5 M ⟨(d.length : Int) + 1, stamp, tick, true, pu, cu, o⟩ := by
            rw [← hW5]
            exact heap_setCell_same w4 M 4 _ _ _ hX4
          have hJ4 : OwnJ (M + 1) w4 (.slice pu o.length cu) o := own_weakJ hJ (by omega)
          have HJ5 : Hid (OwnJ w.heap.size W5 (.slice pu o.length cu) o) := by
            rw [← hW5]
            exact own_weakJ (ownJ_set hJ4 (by omega) _) (by omega)
          have HMO := hid hmo
          have HP := hid (push_at HC.out hb5 hX5 hNM hS5)
          obtain ⟨q0, q1, q2, q3, q4'⟩ := HP.out.new
          have q4 : W5.cell? ⟨M, 0 + 4, none⟩ = some (.slice pu o.length cu) := q4'
          have c5 := HP.out.cell
          have z5 := HP.out.free
          have a5 := HP.out.next
          have hne := HP.out.ne
          clear hX5 hb5 q4' hX4 hJ hJ4 hmo hb4 hb34 HX3 HCP m4' l0' l1' l2' l3' l4' cL' zL'
          go_upto_region 13 with fail
          try rw [hW5]
          clear hW5 m0 m1 m2 m3 m4 f4
          go_region_law (first
            | (refine step_putV _ (by rfl) (.tmp 75) (.tmp 77) (by rfl) n0 (.slice p d.length cap) d (by rfl) (by exact HP.out.own _) _ ⟨(d.length : Int) + 1, stamp, tick, true, pu, cu, o⟩ (by rfl) (by exact HP.out.lies) hfew (HP.out.big _) ?_; intro b6 cap6 w6 hown6 hg6 hat6; obtain ⟨g61, g62, g63⟩ := HP.out.then_ _ _ hg6))
          all_goals
            have HH := hid (HYES.out _ w6 b6 cap6 pu cu o H3.out (HP.out.bel _) (HJ5.out.on (bel_drewN ((Below.refl _ _).alloc (Nat.le_refl _) _) 1)) (by rw [HMO.out]; exact HMV.out) HMO.out hown6 hg6 (hat6.imp id (HP.out.high _ _)))
            clear hown6 hg6 hat6
            go_wp2_with fail
            go_ret2
            exact ⟨congrArg Ending.returned HH.out.1, HH.out.2.1, HH.out.2.2⟩
      | false =>
        cases xl with
        | false =>
          have H6 : Hid (putC (d.map Vx.ver) stamp false val = 6) := by
            rw [if_neg (by simp), if_pos ⟨rfl, rfl⟩] at hcode
            exact hcode
          clear HCODE HYES HMAY HCOPY hcode
          go_wp2_with fail
          go_ret2
          have := put_no (tick := tick) HC.out H6.out (by decide) HR.out.2
          exact ⟨congrArg Ending.returned this.1, this.2, Gn.below HR.out.2⟩
        | true =>
          have H6 : Hid (putC (d.map Vx.ver) stamp false val = 0) := by
            rw [if_neg (by simp), if_neg (by simp)] at hcode
            exact hcode
          clear HCODE HMAY HCOPY hcode
          go_wp2_with fail
          obtain ⟨M, hM⟩ : ∃ M, wc.heap.size = M := ⟨_, rfl⟩
          have hNM : w.heap.size ≤ M := by have := HR.out.2.size; omega
          obtain ⟨W5, hW5⟩ : ∃ W5, wc.alloc (.cells #[.int .i64 ((d.length : Int) + 1), .int .u64 stamp, .int .i64 tick, .bool false, .slice none 0 0] 39) = W5 := ⟨_, rfl⟩
          have hb5 : Below w.heap.size w W5 := by rw [← hW5]; exact HR.out.2.alloc HR.out.2.size _
          have hs5 : W5.heap.size = M + 1 := by rw [← hW5, ← hM]; simp
          have hX5 : VerAt W5 M ⟨(d.length : Int) + 1, stamp, tick, false, none, 0, []⟩ := by
            rw [← hW5, ← hM]
            exact heap_alloc_new wc _
          have HP := hid (push_at HC.out hb5 hX5 hNM hs5)
          obtain ⟨q0, q1, q2, q3, q4'⟩ := HP.out.new
          have q4 : W5.cell? ⟨M, 0 + 4, none⟩ = some (.slice none 0 0) := q4'
          have c5 := HP.out.cell
          have z5 := HP.out.free
          have a5 := HP.out.next
          have hne := HP.out.ne
          have HW0 := hid (own_noneX w.heap.size)
          clear hX5 hb5 q4'
          try rw [hW5]
          try rw [hM]
          clear l0 l1 l2 l3 l4 cL zL
          go_region_law (first
            | (refine step_putV _ (by rfl) (.tmp 75) (.tmp 77) (by rfl) n0 (.slice p d.length cap) d (by rfl) (by exact HP.out.own _) _ ⟨(d.length : Int) + 1, stamp, tick, false, none, 0, []⟩ (by rfl) (by exact HP.out.lies) hfew (HP.out.big _) ?_; intro b6 cap6 w6 hown6 hg6 hat6; obtain ⟨g61, g62, g63⟩ := HP.out.then_ _ _ hg6))
          all_goals
            have HH := hid (HYES.out _ w6 b6 cap6 none 0 [] H6.out (HP.out.bel _) (HW0.out _) may_nil rfl hown6 hg6 (hat6.imp id (HP.out.high _ _)))
            clear hown6 hg6 hat6
            go_wp2_with fail
            go_ret2
            exact ⟨congrArg Ending.returned HH.out.1, HH.out.2.1, HH.out.2.2⟩
    · have H8 := hid hcode
      clear hcode
      by_cases hz : stamp = 0
      · have hz' : (stamp == 0) = true := by simpa using hz
        clear HCODE HYES HMAY HCOPY hz
        go_wp2_with fail
        go_ret2
        have := put_no (tick := tick) HC.out H8.out (by decide) HR.out.2
        exact ⟨congrArg Ending.returned this.1, this.2, Gn.below HR.out.2⟩
      · have hz' : (stamp == 0) = false := by simpa using hz
        clear HCODE HYES HMAY HCOPY hz
        go_wp2_with fail
        go_ret2
        have := put_no (tick := tick) HC.out H8.out (by decide) HR.out.2
        exact ⟨congrArg Ending.returned this.1, this.2, Gn.below HR.out.2⟩

end Go.Proofs.YticfpkodoghnnaaGreat

/-
  The laws of stage 6: the chapter's examples.
-/
namespace Go.Proofs.YticfpkodoghnnaaGreat
open Go.RowKit

def exA : ByteArray := ⟨#[97]⟩
def exX : ByteArray := ⟨#[120]⟩
def exV : List Fld := [(exA, [exX])]
theorem ex_may : mayB exV = true := by decide

def ex1 : List Vr := [⟨1, 3, 0, true, exV⟩]
def ex2 : List Vr := [⟨1, 3, 0, true, exV⟩, ⟨2, 5, 1, true, []⟩]

theorem ex_c1 : putC [] 3 true exV = 0 := by unfold putC; rw [ex_may]; rfl
theorem ex_l1 : putL [] 3 0 true exV = ex1 := by unfold putL; rw [if_pos ex_c1]; rfl
theorem ex_n1 : putN [] 3 true exV = 1 := by unfold putN; rw [if_pos ex_c1]; rfl
theorem ex_c2 : putC ex1 5 true [] = 0 := by unfold putC; rw [may_nil]; rfl
theorem ex_l2 : putL ex1 5 1 true [] = ex2 := by unfold putL; rw [if_pos ex_c2]; rfl
theorem ex_n2 : putN ex1 5 true [] = 2 := by unfold putN; rw [if_pos ex_c2]; rfl
theorem ex_c3 : putC ex2 5 true [] = 8 := rfl
theorem ex_l3 : putL ex2 5 1 true [] = ex2 := by unfold putL; rw [ex_c3]; rfl
theorem ex_n3 : putN ex2 5 true [] = 0 := by unfold putN; rw [ex_c3]; rfl
theorem ex_at : atV ex2 4 = some ⟨1, 3, 0, true, exV⟩ := rfl
theorem ex_num : numV ex2 2 = some ⟨2, 5, 1, true, []⟩ := rfl
theorem ex_last : ex2.getLast? = some ⟨2, 5, 1, true, []⟩ := rfl
theorem ex_since : sinceV ex2 3 = [⟨2, 5, 1, true, []⟩] := rfl
theorem ex_prune : pruneN ex2 6 = 1 := rfl

theorem ex_is (W : World) : IsXs ((W.alloc (.cells #[.string exX] 9)).alloc (.cells #[.string exA, .slice (some ⟨W.heap.size, 0, none⟩) 1 1] 107)) (.slice (some ⟨W.heap.size + 1, 0, none⟩) 1 1) [⟨exA, some ⟨W.heap.size, 0, none⟩, 1, [exX]⟩] := by
  have h1 := heap_alloc2_new W (.cells #[.string exX] 9) (.cells #[.string exA, .slice (some ⟨W.heap.size, 0, none⟩) 1 1] 107)
  have h2 := heap_alloc2_old W (.cells #[.string exX] 9) (.cells #[.string exA, .slice (some ⟨W.heap.size, 0, none⟩) 1 1] 107)
  refine ⟨_, _, rfl, Or.inr ⟨_, _, rfl, fun i hi => ?_⟩, fun x hx => ?_⟩
  · have hi' : i = 0 := by simpa using hi
    subst hi'
    exact ⟨by rw [Lib.cell_of_heap h1]; rfl, by rw [Lib.cell_of_heap h1]; rfl⟩
  · rw [List.mem_singleton] at hx
    subst hx
    refine Or.inr ⟨_, _, rfl, fun i hi => ?_⟩
    have hi' : i = 0 := by simpa using hi
    subst hi'
    rw [Lib.cell_of_heap h2]; rfl

theorem ex_fit (a : Option Addr) : FitX [⟨exA, a, 1, [exX]⟩] := (may_fit (o := [⟨exA, a, 1, [exX]⟩]) ex_may).1

theorem is_none (W : World) : IsXs W (.slice none 0 0) [] := ⟨none, 0, rfl, Or.inl rfl, fun x hx => by simp at hx⟩
theorem fit_none : FitX [] := ⟨Nat.zero_le _, fun x hx => by simp at hx⟩

theorem ver_parts {x : Vx} {n s t : Int} {l : Bool} {v : List Fld} (h : x.ver = ⟨n, s, t, l, v⟩) : x.num = n ∧ x.stamp = s ∧ x.tick = t ∧ x.live = l ∧ x.o.map Fx.fld = v := by
  unfold Vx.ver at h
  injection h with a b c d e
  exact ⟨a, b, c, d, e⟩

end Go.Proofs.YticfpkodoghnnaaGreat

/-
  The program's chain (stage 6): what stays beside a Put and a Prune.
-/
namespace Go.Proofs.YticfpkodoghnnaaGreat
open Go.RowKit

theorem st_put2 {n0 g : Nat} {l : List Vr} {W0 W : World} (h : ChSt n0 g l W0) (hb : Below W0.heap.size W0 W) (stamp tick : Int) (live : Bool) (v : Value) (e : List Fx) (val : List Fld) (hv : IsXs W v e) (hf : FitX e) (hval : e.map Fx.fld = val) (h0 : 0 ≤ stamp) (htop : (lastV l).num < 2400000000000) :
    Calls Tryz.prog 54 #[.pointer (some ⟨g, 0, none⟩), .int .u64 stamp, .int .i64 tick, .bool live, v] W fun r w' =>
      r = .returned (.tuple #[.int .i64 (putN l stamp live val), .int .i64 (putC l stamp live val)]) ∧ ChSt n0 g (putL l stamp tick live val) w' ∧ Fr (fun k => n0 ≤ k ∧ k < W0.heap.size) W w' := by
  obtain ⟨d, vs, h1, rfl⟩ := h
  refine (put_any (h1.on hb) stamp tick live v e val hv hf hval h0 htop).mono ?_
  rintro r w' ⟨h2, d', vs', h3, h4, _, h5⟩
  exact ⟨h2, ⟨d', vs', h3, h4⟩, h5.mono fun k hk => h1.blk k hk⟩

theorem st_prune2 {n0 g : Nat} {l : List Vr} {W0 W : World} (h : ChSt n0 g l W0) (hb : Below W0.heap.size W0 W) (f : Int) :
    Calls Tryz.prog 56 #[.pointer (some ⟨g, 0, none⟩), .int .u64 f] W fun r w' => r = .returned (.int .i64 (pruneN l f : Nat)) ∧ ChSt n0 g (pruneV l f) w' ∧ Fr (fun k => n0 ≤ k ∧ k < W0.heap.size) W w' := by
  obtain ⟨d, vs, h1, rfl⟩ := h
  refine (prune_any (h1.on hb) f).mono ?_
  rintro r w' ⟨h2, d', vs', h3, h4, _, h5⟩
  exact ⟨h2, ⟨d', vs', h3, h4⟩, h5.mono fun k hk => h1.blk k hk⟩

theorem Told.fr {P : Nat → Prop} {N : Nat} {u : Value} {o : List Vx} {l : List Vr} {W W2 : World} (h : Told N u o l W) (f : Fr P W W2) (hP : ∀ k, P k → k < N) : Told N u o l W2 := by
  refine ⟨f.row (show W.ownsRow N 39 5 u o.length (KV.cells o) from h.own) fun k hk hp => ?_, fun x hx => ownJ_fr (h.each x hx) f fun k hk hp => ?_, h.apart, h.ver⟩
  · have h1 := (World.ownsRow.lt (show W.ownsRow N 39 5 u o.length (KV.cells o) from h.own) k hk).1
    have h2 := hP k hp
    omega
  · have h1 := (ownJ_blk (h.each x hx) k hk).1
    have h2 := hP k hp
    omega

theorem VerAt.fr {P : Nat → Prop} {N : Nat} {x : Vx} {W W2 : World} (h : VerAt W N x) (f : Fr P W W2) (hP : ¬ P N) : VerAt W2 N x := (f.block N h.lt hP).trans h

/-- The first ones of a list. -/
theorem take_is {n0 : Nat} {w : World} {p : Option Addr} {cap : Nat} {d : List Vx} (h : KV.Own n0 w (.slice p d.length cap) d) (k : Nat) (hk : k ≤ d.length) : KV.Is w (.slice p k cap) (d.take k) := by
  refine ⟨p, cap, by rw [List.length_take, Nat.min_eq_left hk], ?_⟩
  obtain ⟨p', c', hsl, hI⟩ := Kind.own_is h
  injection hsl with e1 _ _
  subst e1
  rcases hI with hI | ⟨b, off, rfl, hat⟩
  · left; rw [hI]; simp
  · refine Or.inr ⟨b, off, rfl, fun i hi j u hu => ?_⟩
    have hi' : i < d.length := by rw [List.length_take] at hi; omega
    rw [List.getElem_take] at hu
    exact hat i hi' j u hu

theorem put_same {l : List Vr} {stamp tick : Int} {live : Bool} {val : List Fld} (h : putC l stamp live val ≠ 0) : putL l stamp tick live val = l ∧ putN l stamp live val = 0 := by
  unfold putL putN
  rw [if_neg h, if_neg h]
  exact ⟨rfl, rfl⟩

theorem put_newV {l : List Vr} {stamp tick : Int} {live : Bool} {val : List Fld} (h : putC l stamp live val = 0) : putL l stamp tick live val = l ++ [⟨putN l stamp live val, stamp, tick, live, if live then val else []⟩] := by
  unfold putL putN
  rw [if_pos h, if_pos h]
  rfl

theorem put_above {l : List Vr} {stamp : Int} {live : Bool} {val : List Fld} (h : putC l stamp live val = 0) : (lastV l).stamp < stamp := by
  unfold putC putCode at h
  split at h
  · simp at h
  · next hs => exact Int.not_le.1 fun e => hs (Or.inr e)

end Go.Proofs.YticfpkodoghnnaaGreat

/-
  The program's chain and the reference's, side by side (stage 6).
-/
namespace Go.Proofs.YticfpkodoghnnaaGreat
open Go.RowKit

theorem refC_of {n0 : Nat} {w : World} {g gone : Nat} {d : List Vx} {vs : Value} (h : PrgC n0 w g d vs) (gn : w.cell? ⟨g, 1, none⟩ = some (.int .i64 gone)) (gf : w.frozen? ⟨g, 1, none⟩ = false) (hle : gone ≤ d.length) : RefC w g d gone vs := by
  refine ⟨h.cell, gn, h.free, gf, Kind.own_is h.row, fun x hx => ⟨(h.fits x hx).1, (h.fits x hx).2.1⟩, hle, h.few, fun W hg => ?_⟩
  have f : Fr (fun k => k = g) w W := Fr.of_grown hg fun k hk => by simpa using hk.symm
  refine ⟨Kind.own_is (show KV.Own n0 W vs d from f.row (show w.ownsRow n0 39 5 vs d.length (KV.cells d) from h.row) fun k hk => h.off k (Or.inl hk)), fun x hx => ?_⟩
  exact (ownJ_fr (h.each x hx).1 f fun k hk => h.off k (Or.inr ⟨x, hx, hk⟩)).1.is

/-- Both chains: the program's versions are L, the reference's R, of which the first ones are gone. -/
def TwoG (n0 gc gr : Nat) (L R : List Vr) (gone : Nat) (W : World) : Prop :=
  ∃ dc vc dr vr, PrgC n0 W gc dc vc ∧ PrgC n0 W gr dr vr ∧ dc.map Vx.ver = L ∧ dr.map Vx.ver = R ∧ W.cell? ⟨gr, 1, none⟩ = some (.int .i64 gone) ∧ W.frozen? ⟨gr, 1, none⟩ = false ∧ gone ≤ R.length ∧ ∀ k, BlkC gc dc vc k → ¬ BlkC gr dr vr k

theorem frozen_fr {P : Nat → Prop} {w W : World} {a : Addr} (f : Fr P w W) (hlt : a.block < w.heap.size) (h : w.frozen? a = false) (hP : ¬ P a.block) : W.frozen? a = false := (World.frozen?_of_block (f.block a.block hlt hP)).trans h

theorem TwoG.on {n0 gc gr : Nat} {L R : List Vr} {gone : Nat} {W W2 : World} (h : TwoG n0 gc gr L R gone W) (hb : Below W.heap.size W W2) : TwoG n0 gc gr L R gone W2 := by
  obtain ⟨dc, vc, dr, vr, h1, h2, h3, h4, h5, h6, h7, h9⟩ := h
  have f : Fr (fun _ => False) W W2 := Fr.of_below hb
  exact ⟨dc, vc, dr, vr, h1.on hb, h2.on hb, h3, h4, f.cell h5 (fun h => h), frozen_fr f (cell_block h5) h6 (fun h => h), h7, h9⟩

theorem TwoG.base {n0 gc gr : Nat} {L R : List Vr} {gone : Nat} {W : World} (h : TwoG n0 gc gr L R gone W) : n0 ≤ W.heap.size := by
  obtain ⟨dc, vc, dr, vr, h1, _⟩ := h
  have h5 : gc < W.heap.size := cell_block h1.cell
  have h6 := h1.base
  omega

theorem TwoG.gr {n0 gc gr : Nat} {L R : List Vr} {gone : Nat} {W : World} (h : TwoG n0 gc gr L R gone W) : gr < W.heap.size := by
  obtain ⟨dc, vc, dr, vr, _, h2, _⟩ := h
  exact cell_block h2.cell

theorem TwoG.ch {n0 gc gr : Nat} {L R : List Vr} {gone : Nat} {W : World} (h : TwoG n0 gc gr L R gone W) : ChSt n0 gc L W := by
  obtain ⟨dc, vc, dr, vr, h1, _, h3, _⟩ := h
  exact ⟨dc, vc, h1, h3⟩

theorem TwoG.ok {n0 gc gr : Nat} {L R : List Vr} {gone : Nat} {W : World} (h : TwoG n0 gc gr L R gone W) : OkV R ∧ ∀ v ∈ R, mayB v.val = true := by
  obtain ⟨dc, vc, dr, vr, _, h2, _, h4, _⟩ := h
  subst h4
  exact ⟨h2.ok, fun v hv => by
    obtain ⟨x, hx, rfl⟩ := List.mem_map.1 hv
    exact (h2.each x hx).2⟩

theorem TwoG.ref {n0 gc gr : Nat} {L R : List Vr} {gone : Nat} {W : World} (h : TwoG n0 gc gr L R gone W) : ∃ dr vr, RefC W gr dr gone vr ∧ dr.map Vx.ver = R ∧ (∀ x ∈ dr, mayB (x.o.map Fx.fld) = true) ∧ KV.Own n0 W vr dr := by
  obtain ⟨dc, vc, dr, vr, _, h2, _, h4, h5, h6, h7, _⟩ := h
  exact ⟨dr, vr, refC_of h2 h5 h6 (by rw [← h4, List.length_map] at h7; exact h7), h4, fun x hx => (h2.each x hx).2, h2.row⟩

theorem g_put {n0 gc gr : Nat} {L R : List Vr} {gone : Nat} {W0 W : World} (h : TwoG n0 gc gr L R gone W0) (hb : Below W0.heap.size W0 W) (stamp tick : Int) (live : Bool) (v : Value) (e : List Fx) (val : List Fld) (hv : IsXs W v e) (hf : FitX e) (hval : e.map Fx.fld = val) (h0 : 0 ≤ stamp) (htop : (lastV L).num < 2400000000000) :
    Calls Tryz.prog 54 #[.pointer (some ⟨gc, 0, none⟩), .int .u64 stamp, .int .i64 tick, .bool live, v] W fun r w' =>
      r = .returned (.tuple #[.int .i64 (putN L stamp live val), .int .i64 (putC L stamp live val)]) ∧ TwoG n0 gc gr (putL L stamp tick live val) R gone w' ∧ Below n0 W w' ∧ Fr (fun k => n0 ≤ k ∧ k < W0.heap.size) W w' := by
  have hbase : n0 ≤ W.heap.size := (h.on hb).base
  have hlt0 : ∀ {g : Nat} {d : List Vx} {vs : Value}, PrgC n0 W0 g d vs → ∀ k, BlkC g d vs k → n0 ≤ k ∧ k < W0.heap.size := fun h => h.blk
  have hon := h.on hb
  obtain ⟨dc, vc, dr, vr, b1, b2, rfl, h4, b5, b6, h7, h9⟩ := h
  have h1 := b1.on hb
  have h2 := b2.on hb
  have f0 : Fr (fun _ => False) W0 W := Fr.of_below hb
  have h5 := f0.cell b5 (fun h => h)
  have h6 := frozen_fr f0 (cell_block b5) b6 (fun h => h)
  clear hon f0
  refine (put_any h1 stamp tick live v e val hv hf hval h0 htop).mono ?_
  rintro r w' ⟨e1, d', vs', a1, a2, a3, a4⟩
  refine ⟨e1, ⟨d', vs', dr, vr, a1, h2.fr a4 fun k hk hn => h9 k hn hk, a2, h4, a4.cell h5 fun hn => h9 gr hn (Or.inl rfl), frozen_fr a4 (cell_block h5) h6 fun hn => h9 gr hn (Or.inl rfl), h7, fun k hk hn => ?_⟩, a4.below hbase fun k hk => (h1.blk k hk).1, a4.mono fun k hk => hlt0 b1 k hk⟩
  rcases a3 k hk with h | h
  · exact h9 k h hn
  · have := (h2.blk k hn).2
    omega

theorem g_add {n0 gc gr : Nat} {L R : List Vr} {gone : Nat} {W0 W : World} (h : TwoG n0 gc gr L R gone W0) (hb : Below W0.heap.size W0 W) (hnum : (lastV R).num = (R.length : Int)) (stamp tick : Int) (live : Bool) (v : Value) (e : List Fx) (val : List Fld) (hv : IsXs W v e) (hf : FitX e) (hval : e.map Fx.fld = val) (h0 : 0 ≤ stamp) (htop : (lastV R).num < 2400000000000) :
    Calls Tryz.prog 59 #[.pointer (some ⟨gr, 0, none⟩), .int .u64 stamp, .int .i64 tick, .bool live, v] W fun r w' =>
      r = .returned (.tuple #[.int .i64 (putN R stamp live val), .int .i64 (putC R stamp live val)]) ∧ TwoG n0 gc gr L (putL R stamp tick live val) gone w' ∧ Below n0 W w' ∧ Fr (fun k => n0 ≤ k ∧ k < W0.heap.size) W w' := by
  have hbase : n0 ≤ W.heap.size := (h.on hb).base
  have hlt0 : ∀ {g : Nat} {d : List Vx} {vs : Value}, PrgC n0 W0 g d vs → ∀ k, BlkC g d vs k → n0 ≤ k ∧ k < W0.heap.size := fun h => h.blk
  have hon := h.on hb
  obtain ⟨dc, vc, dr, vr, b1, b2, h3, rfl, b5, b6, h7, h9⟩ := h
  have h1 := b1.on hb
  have h2 := b2.on hb
  have f0 : Fr (fun _ => False) W0 W := Fr.of_below hb
  have h5 := f0.cell b5 (fun h => h)
  have h6 := frozen_fr f0 (cell_block b5) b6 (fun h => h)
  clear hon f0
  rw [List.length_map] at hnum
  refine (radd_any h2 hnum stamp tick live v e val hv hf hval h0 htop).mono ?_
  rintro r w' ⟨e1, ⟨d', vs', a1, a2, a3, a4⟩, a5⟩
  have hlen : (dr.map Vx.ver).length ≤ (putL (dr.map Vx.ver) stamp tick live val).length := by
    unfold putL
    split
    · unfold putV; simp
    · omega
  obtain ⟨g1, g2⟩ := a5 _ h5 h6
  refine ⟨e1, ⟨dc, vc, d', vs', h1.fr a4 fun k hk hn => h9 k hk hn, a1, h3, a2, g1, g2, by omega, fun k hk hn => ?_⟩, a4.below hbase fun k hk => (h2.blk k hk).1, a4.mono fun k hk => hlt0 b2 k hk⟩
  rcases a3 k hn with h | h
  · exact h9 k hk h
  · have := (h1.blk k hk).2
    omega

theorem g_prune {n0 gc gr : Nat} {L R : List Vr} {gone : Nat} {W0 W : World} (h : TwoG n0 gc gr L R gone W0) (hb : Below W0.heap.size W0 W) (f : Int) :
    Calls Tryz.prog 56 #[.pointer (some ⟨gc, 0, none⟩), .int .u64 f] W fun r w' => r = .returned (.int .i64 (pruneN L f : Nat)) ∧ TwoG n0 gc gr (pruneV L f) R gone w' ∧ Below n0 W w' ∧ Fr (fun k => n0 ≤ k ∧ k < W0.heap.size) W w' := by
  have hbase : n0 ≤ W.heap.size := (h.on hb).base
  have hlt0 : ∀ {g : Nat} {d : List Vx} {vs : Value}, PrgC n0 W0 g d vs → ∀ k, BlkC g d vs k → n0 ≤ k ∧ k < W0.heap.size := fun h => h.blk
  have hon := h.on hb
  obtain ⟨dc, vc, dr, vr, b1, b2, rfl, h4, b5, b6, h7, h9⟩ := h
  have h1 := b1.on hb
  have h2 := b2.on hb
  have f0 : Fr (fun _ => False) W0 W := Fr.of_below hb
  have h5 := f0.cell b5 (fun h => h)
  have h6 := frozen_fr f0 (cell_block b5) b6 (fun h => h)
  clear hon f0
  refine (prune_any h1 f).mono ?_
  rintro r w' ⟨e1, d', vs', a1, a2, a3, a4⟩
  refine ⟨e1, ⟨d', vs', dr, vr, a1, h2.fr a4 fun k hk hn => h9 k hn hk, a2, h4, a4.cell h5 fun hn => h9 gr hn (Or.inl rfl), frozen_fr a4 (cell_block h5) h6 fun hn => h9 gr hn (Or.inl rfl), h7, fun k hk hn => ?_⟩, a4.below hbase fun k hk => (h1.blk k hk).1, a4.mono fun k hk => hlt0 b1 k hk⟩
  rcases a3 k hk with h | h
  · exact h9 k h hn
  · have := (h2.blk k hn).2
    omega

theorem g_rprune {n0 gc gr : Nat} {L R : List Vr} {gone : Nat} {W0 W : World} (h : TwoG n0 gc gr L R gone W0) (hb : Below W0.heap.size W0 W) (hnum : ∀ k, (hk : k < R.length) → (R[k]).num = (k : Int) + 1) (f : Int) :
    Calls Tryz.prog 57 #[.pointer (some ⟨gr, 0, none⟩), .int .u64 f] W fun r w' => r = .returned (.int .i64 (pruneN (R.drop gone) f : Nat)) ∧ TwoG n0 gc gr L R (gone + pruneN (R.drop gone) f) w' ∧ Below n0 W w' ∧ Fr (fun k => k = gr) W w' := by
  have hbase : n0 ≤ W.heap.size := (h.on hb).base
  have hon := h.on hb
  obtain ⟨dc, vc, dr, vr, b1, b2, h3, rfl, b5, b6, h7, h9⟩ := h
  have h1 := b1.on hb
  have h2 := b2.on hb
  have f0 : Fr (fun _ => False) W0 W := Fr.of_below hb
  have h5 := f0.cell b5 (fun h => h)
  have h6 := frozen_fr f0 (cell_block b5) b6 (fun h => h)
  clear hon f0
  rw [List.length_map] at h7
  refine (rprune_any gr gone dr vr f W (refC_of h2 h5 h6 h7) h2.ok.rise (fun k hk => ?_)).mono ?_
  · have := hnum k (by rw [List.length_map]; exact hk)
    rw [List.getElem_map] at this
    exact this
  · rintro r w' ⟨n, e1, hn, hR, hg⟩
    have fr : Fr (fun k => k = gr) W w' := Fr.of_grown hg fun k hk => by simpa using hk.symm
    rw [← List.map_drop, ← hn]
    refine ⟨e1, ⟨dc, vc, dr, vr, h1.fr fr fun k hk e => h9 k hk (Or.inl e), ⟨hR.put, hR.f0, h2.base, ?_, fun x hx => ⟨ownJ_fr (h2.each x hx).1 fr fun k hk => h2.off k (Or.inr ⟨x, hx, hk⟩), (h2.each x hx).2⟩, h2.off, h2.ok, h2.top⟩, h3, rfl, hR.gn, hR.f1, by rw [List.length_map]; exact hR.le, h9⟩, fr.below hbase fun k hk => by rw [hk]; exact h2.base, fr⟩
    exact fr.row (show W.ownsRow n0 39 5 vr dr.length (KV.cells dr) from h2.row) fun k hk => h2.off k (Or.inl hk)

/-- A version that the reference tells: it lies in the chain's own memory. -/
def RAns (W0 W : World) (o : Option Vr) (e : Ending) (w' : World) : Prop := ∃ x : Vx, e = .returned (.tuple #[.agg (encVx x).toArray, .bool o.isSome]) ∧ x.ver = o.getD zeroV ∧ x.at W0 ∧ Below W.heap.size W w'

theorem zero_at (W : World) : zeroVx.at W := ⟨none, 0, rfl, Or.inl rfl, fun x hx => by simp [zeroVx] at hx⟩

theorem g_rat {n0 gc gr : Nat} {L R : List Vr} {gone : Nat} {W0 W : World} (h : TwoG n0 gc gr L R gone W0) (hb0 : Below W0.heap.size W0 W) (t : Int) : Calls Tryz.prog 34 #[.pointer (some ⟨gr, 0, none⟩), .int .u64 t] W fun e w' => RAns W0 W (atV (R.drop gone) t) e w' := by
  have hok := h.ok.1
  obtain ⟨dr, vr, hR, rfl, _, _⟩ := h.ref
  refine (rat_any gr gone dr vr t W (hR.on hb0) hok.rise).mono ?_
  rintro e w' ⟨⟨x, b, rfl, hx⟩, hb⟩
  rw [← List.map_drop]
  rcases hx with ⟨rfl, h1, h2⟩ | ⟨rfl, h1, rfl⟩
  · have h3 : atV ((dr.drop gone).map Vx.ver) t = some x.ver := by
      unfold atV
      rw [if_neg h1, List.getElem?_map, h2]; rfl
    rw [h3]
    exact ⟨x, rfl, rfl, (hR.each x (List.mem_of_mem_drop (List.mem_of_getElem? h2))).1, hb⟩
  · have h3 : atV ((dr.drop gone).map Vx.ver) t = none := by unfold atV; rw [if_pos h1]
    rw [h3]
    exact ⟨zeroVx, rfl, rfl, zero_at W0, hb⟩

/-- What the reference's Number tells is what the program's tells. -/
theorem num_post {R : List Vr} {gone : Nat} {W0 W : World} {gr : Nat} {dr : List Vx} {vr : Value} {n : Int} {e : Ending} {w' : World} (hR : RefC W0 gr dr gone vr) (h4 : dr.map Vx.ver = R) (hok : OkV R) (hnum : ∀ k, (hk : k < R.length) → (R[k]).num = (k : Int) + 1) (h : NumPost W dr gone n e w') : RAns W0 W (numV (R.drop gone) n) e w' := by
  subst h4
  obtain ⟨⟨x, b, rfl, hx⟩, hb⟩ := h
  rcases hx with ⟨rfl, k, hk1, hk2, hk3⟩ | ⟨rfl, hn, rfl⟩
  · obtain ⟨hk4, hk5⟩ := List.getElem?_eq_some_iff.1 hk3
    have h3 : numV (((dr.map Vx.ver)).drop gone) n = some x.ver := by
      have ho := ok_drop hok gone
      have hlt : k - gone < ((dr.map Vx.ver).drop gone).length := by rw [List.length_drop, List.length_map]; omega
      have h5 := ok_find ho (k - gone) hlt
      have e1 : ((dr.map Vx.ver).drop gone)[k - gone] = x.ver := by
        rw [List.getElem_drop, List.getElem_map]
        have : gone + (k - gone) = k := by omega
        simp only [this, hk5]
      have e2 : x.ver.num = n := by
        have := hnum k (by rw [List.length_map]; exact hk4)
        rw [List.getElem_map, hk5] at this
        rw [this, hk1]
      rw [e1, e2] at h5
      exact h5
    rw [h3]
    exact ⟨x, rfl, rfl, (hR.each x (List.mem_of_getElem? hk3)).1, hb⟩
  · have h3 : numV ((dr.map Vx.ver).drop gone) n = none := by
      unfold numV
      rw [List.find?_eq_none]
      intro v hv
      obtain ⟨i, hi, rfl⟩ := List.mem_iff_getElem.1 hv
      rw [List.length_drop, List.length_map] at hi
      rw [List.getElem_drop]
      have := hnum (gone + i) (by rw [List.length_map]; omega)
      simp only [decide_eq_true_eq]
      omega
    rw [h3]
    exact ⟨zeroVx, rfl, rfl, zero_at W0, hb⟩

theorem g_rnum {n0 gc gr : Nat} {L R : List Vr} {gone : Nat} {W0 W : World} (h : TwoG n0 gc gr L R gone W0) (hb0 : Below W0.heap.size W0 W) (hnum : ∀ k, (hk : k < R.length) → (R[k]).num = (k : Int) + 1) (n : Int) : Calls Tryz.prog 49 #[.pointer (some ⟨gr, 0, none⟩), .int .i64 n] W fun e w' => RAns W0 W (numV (R.drop gone) n) e w' := by
  have hok := h.ok.1
  obtain ⟨dr, vr, hR, h4, _, _⟩ := h.ref
  exact (rnum_any gr gone dr vr n W (hR.on hb0)).mono fun e w' hp => num_post hR h4 hok hnum hp

end Go.Proofs.YticfpkodoghnnaaGreat

/-
  The contract of the reference's Less.
-/
namespace Go.Proofs.YticfpkodoghnnaaGreat.Z
open Go.RowKit

theorem less_eq (a b c d : ByteArray) : (Op.bytesLess a.toList c.toList || (a.toList == c.toList && Op.bytesLess b.toList d.toList)) = decide (cmpI a b c d < 0) := by
  rw [Lib.toList_data, Lib.toList_data, Lib.toList_data, Lib.toList_data]
  exact (cmpL_less _ _ _ _).symm

set_option maxHeartbeats 400000 in
theorem zless_any (a b c d : ByteArray) (w : World) :
    Calls Tryz.prog 60 #[.agg #[.string a, .string b], .agg #[.string c, .string d]] w fun e w' => e = .returned (.bool (decide (cmpI a b c d < 0))) ∧ Below w.heap.size w w' := by
  have HE : Hid ((Op.bytesLess a.toList c.toList || (a.toList == c.toList && Op.bytesLess b.toList d.toList)) = decide (cmpI a b c d < 0)) := less_eq a b c d
  have hb : Below w.heap.size w ((w.alloc (.cells #[.string a, .string b] 31)).alloc (.cells #[.string c, .string d] 31)) := ((Below.refl _ _).alloc (Nat.le_refl _) _).alloc (by simp) _
  have HB := hid hb
  clear hb
  cases h1 : Op.bytesLess a.toList c.toList
  · cases h2 : (a.toList == c.toList)
    · go_enter Tryz.func60, Tryz.ntmps60
      go_wp2
      go_ret
      exact ⟨ret_bool (by rw [← HE.out, h1, h2]; rfl), HB.out⟩
    · go_enter Tryz.func60, Tryz.ntmps60
      go_wp2
      go_ret
      exact ⟨ret_bool (by rw [← HE.out, h1, h2]; rfl), HB.out⟩
  · go_enter Tryz.func60, Tryz.ntmps60
    go_wp2
    go_ret
    exact ⟨ret_bool (by rw [← HE.out, h1]; rfl), HB.out⟩

end Go.Proofs.YticfpkodoghnnaaGreat.Z

/-
  The document's directory in memory (stage 14; folioref07.Dir): its rows, each with a chain.
-/
namespace Go.Proofs.YticfpkodoghnnaaGreat
open Go.RowKit

/-- A row as it lies in memory. -/
structure Rw where
  a : ByteArray
  b : ByteArray
  g : Nat
  deriving Inhabited
def encRw (x : Rw) : List Value := [.string x.a, .string x.b, .pointer (some ⟨x.g, 0, none⟩)]
def KRw : Kind Rw := ⟨110, 3, encRw, fun _ => rfl, by decide, fun x u hu => by simp [encRw] at hu; rcases hu with rfl | rfl | rfl <;> rfl⟩
theorem krw_at {w : World} {b off : Nat} {d : List Rw} (h : KRw.At w b off d) (i : Nat) (hi : i < d.length) : w.cell? ⟨b, off + i * 3, none⟩ = some (.string (d[i]).a) ∧ w.cell? ⟨b, off + i * 3 + 1, none⟩ = some (.string (d[i]).b) ∧ w.cell? ⟨b, off + i * 3 + 2, none⟩ = some (.pointer (some ⟨(d[i]).g, 0, none⟩)) := ⟨h i hi 0 _ rfl, h i hi 1 _ rfl, h i hi 2 _ rfl⟩

/-- A row with its chain. -/
structure Rr where
  a : ByteArray
  b : ByteArray
  g : Nat
  d : List Vx
  vs : Value
  gone : Nat
def Rr.rw (x : Rr) : Rw := ⟨x.a, x.b, x.g⟩
def Rr.key (x : Rr) : Ky := (x.a, x.b)
def Rr.all (x : Rr) : List Vr := x.d.map Vx.ver
/-- What is there of it. -/
def Rr.row (x : Rr) : RowD := (x.key, x.all.drop x.gone)
def Rr.blk (x : Rr) (k : Nat) : Prop := BlkC x.g x.d x.vs k

/-- A chain of the document in its block. -/
structure RCx (n0 : Nat) (W : World) (g : Nat) (d : List Vx) (vs : Value) (gone : Nat) : Prop where
  prg : PrgC n0 W g d vs
  gn : W.cell? ⟨g, 1, none⟩ = some (.int .i64 gone)
  fz : W.frozen? ⟨g, 1, none⟩ = false
  le : gone ≤ d.length
  nums : ∀ k, (h : k < (d.map Vx.ver).length) → ((d.map Vx.ver)[k]).num = (k : Int) + 1
theorem RCx.fr {n0 : Nat} {W W' : World} {g : Nat} {d : List Vx} {vs : Value} {gone : Nat} {P : Nat → Prop} (h : RCx n0 W g d vs gone) (f : Fr P W W') (hP : ∀ k, BlkC g d vs k → ¬ P k) : RCx n0 W' g d vs gone :=
  ⟨h.prg.fr f hP, f.cell h.gn (hP g (Or.inl rfl)), frozen_fr f (cell_block h.gn) h.fz (hP g (Or.inl rfl)), h.le, h.nums⟩
theorem RCx.ref {n0 : Nat} {W : World} {g : Nat} {d : List Vx} {vs : Value} {gone : Nat} (h : RCx n0 W g d vs gone) : RefC W g d gone vs := refC_of h.prg h.gn h.fz h.le

/-- The document's directory in block h. -/
structure RefD (n0 : Nat) (W : World) (h : Nat) (R : List Rr) (vs : Value) : Prop where
  obj : W.heap[h]? = some (.cells #[vs] 76 (0, 0))
  low : n0 ≤ h
  row : KRw.Own n0 W vs (R.map Rr.rw)
  each : ∀ r ∈ R, RCx n0 W r.g r.d r.vs r.gone ∧ r.d ≠ [] ∧ (r.gone = 0 ∨ r.gone < r.d.length) ∧ keyB r.a r.b = true
  apart : R.Pairwise fun r s => ∀ k, r.blk k → ¬ s.blk k
  off : ∀ r ∈ R, ∀ k, r.blk k → k ≠ h ∧ vs.ownBlock ≠ some k
  rise : RisingR ltKy (R.map Rr.key)

/-- Its blocks. -/
def BlkRD (h : Nat) (R : List Rr) (vs : Value) (k : Nat) : Prop := k = h ∨ vs.ownBlock = some k ∨ ∃ r ∈ R, r.blk k
section
variable {n0 : Nat} {W : World} {h : Nat} {R : List Rr} {vs : Value}
theorem RefD.blk (x : RefD n0 W h R vs) (k : Nat) (hk : BlkRD h R vs k) : n0 ≤ k ∧ k < W.heap.size := by
  rcases hk with rfl | hk | ⟨r, hr, hk⟩
  · exact ⟨x.low, (Array.getElem?_eq_some_iff.1 x.obj).1⟩
  · exact World.ownsRow.lt (show W.ownsRow n0 KRw.T KRw.k vs (R.map Rr.rw).length (KRw.cells (R.map Rr.rw)) from x.row) k hk
  · exact (x.each r hr).1.prg.blk k hk
theorem RefD.fr {W' : World} {P : Nat → Prop} (x : RefD n0 W h R vs) (f : Fr P W W') (hP : ∀ k, BlkRD h R vs k → ¬ P k) : RefD n0 W' h R vs :=
  ⟨(f.block h (Array.getElem?_eq_some_iff.1 x.obj).1 (hP h (Or.inl rfl))).trans x.obj, x.low, f.row (show W.ownsRow n0 KRw.T KRw.k vs (R.map Rr.rw).length (KRw.cells (R.map Rr.rw)) from x.row) fun k hk => hP k (Or.inr (Or.inl hk)), fun r hr => ⟨(x.each r hr).1.fr f fun k hk => hP k (Or.inr (Or.inr ⟨r, hr, hk⟩)), (x.each r hr).2⟩, x.apart, x.off, x.rise⟩
theorem RefD.on {W' : World} (x : RefD n0 W h R vs) (hb : Below W.heap.size W W') : RefD n0 W' h R vs := x.fr (P := fun _ => False) (Fr.of_below hb) fun _ _ k => k
theorem RefD.cell (x : RefD n0 W h R vs) : W.cell? ⟨h, 0, none⟩ = some vs := by rw [Lib.cell_of_heap x.obj]; rfl
/-- What it says is a directory. -/
theorem RefD.ok (x : RefD n0 W h R vs) : OkD (R.map Rr.row) := by
  refine ⟨by have := x.rise; rw [List.map_map]; exact this, fun r hr => ?_⟩
  obtain ⟨q, hq, rfl⟩ := List.mem_map.1 hr
  obtain ⟨h1, h2, h3, _⟩ := x.each q hq
  refine ⟨ok_drop h1.prg.ok _, fun e => ?_⟩
  have e' : q.all.drop q.gone = [] := e
  rw [List.drop_eq_nil_iff] at e'
  have hl : q.all.length = q.d.length := List.length_map _
  have : q.d.length ≠ 0 := fun e => h2 (List.length_eq_zero_iff.1 e)
  omega
end

end Go.Proofs.YticfpkodoghnnaaGreat

/-
  The document's directory (stage 14; folioref07.Dir): Of.
-/
namespace Go.Proofs.YticfpkodoghnnaaGreat
open Go.RowKit

/-- What Of leaves: the key's chain, or a new one. -/
def OfPost (W : World) (R : List Rr) (k : Ky) (e : Ending) (w' : World) : Prop :=
  ((∃ r ∈ R, r.key = k ∧ e = .returned (.pointer (some ⟨r.g, 0, none⟩))) ∨ ((∀ r ∈ R, r.key ≠ k) ∧ ∃ g, e = .returned (.pointer (some ⟨g, 0, none⟩)) ∧ W.heap.size ≤ g ∧ w'.heap[g]? = some (.cells #[.slice none 0 0, .int .i64 0] 113 (0, 0)))) ∧ Below W.heap.size W w'

theorem less_cut {ks : List Ky} (hr : RisingR ltKy ks) (k : Ky) (i : Nat) (h : i < ks.length) : decide (Z.cmpI (ks[i]).1 (ks[i]).2 k.1 k.2 < 0) = decide (i < cutK ks k) := by
  rw [decide_eq_decide, ← cutK_lt hr k i h]
  exact z_lt _ _

theorem exit_num (lo hi C : Nat) (h1 : lo ≤ C) (h2 : C ≤ hi) (h3 : ¬ lo < hi) : lo = C := by omega
theorem lt_num (a b : Nat) (h : a < b) : (a : Int) < (b : Int) ∧ (0 : Int) ≤ (a : Int) := ⟨by omega, by omega⟩
theorem meas_up (lo hi m g : Nat) (h1 : lo ≤ m) (h2 : m < hi) (h3 : hi - lo ≤ g) : hi - (m + 1) < g := by omega
theorem meas_down (lo hi m g : Nat) (h1 : lo ≤ m) (h2 : m < hi) (h3 : hi - lo ≤ g) : m - lo < g := by omega
theorem ge_num (a b : Nat) (h : ¬ a < b) : ¬ (a : Int) < (b : Int) := by omega
theorem mid_all (lo hi n : Nat) (h1 : lo < hi) (h2 : hi ≤ n) (h3 : n ≤ 2400000000000) : ∃ m : Nat, m < n ∧ lo ≤ m ∧ m < hi ∧ (lo : Int) < (hi : Int) ∧ (0 : Int) ≤ (m : Int) ∧ (m : Int) < (n : Int) ∧ wrap64 ((lo : Int) + (hi : Int)) = (lo : Int) + (hi : Int) ∧ ((lo : Int) + (hi : Int)) / 2 = (m : Int) := by
  refine ⟨(lo + hi) / 2, by omega, by omega, by omega, by omega, by omega, by omega, by unfold wrap64; omega, by omega⟩

set_option linter.unusedSimpArgs false in
set_option maxHeartbeats 8000000 in
set_option maxRecDepth 100000 in
theorem rof_any {n0 : Nat} {W : World} {h : Nat} {R : List Rr} {vs : Value} (x : RefD n0 W h R vs) (hl : R.length ≤ 2400000000000) (k : Ky) :
    Calls Tryz.prog 33 #[.pointer (some ⟨h, 0, none⟩), .agg #[.string k.1, .string k.2]] W fun e w' => OfPost W R k e w' := by
  obtain ⟨p, cap, hvs⟩ := Kind.own_shape x.row
  rw [List.length_map] at hvs
  subst hvs
  obtain ⟨V, hV⟩ : ∃ V, W.alloc (.cells #[.string k.1, .string k.2] 31) = V := ⟨_, rfl⟩
  obtain ⟨M, hM⟩ : ∃ M, W.heap.size = M := ⟨_, rfl⟩
  have hbV : Below W.heap.size W V := by rw [← hV]; exact (Below.refl _ _).alloc (Nat.le_refl _) _
  have hVo : V.heap[M]? = some (.cells #[.string k.1, .string k.2] 31 (0, 0)) := by rw [← hV, ← hM]; exact heap_alloc_new W _
  have hMl : M < V.heap.size := (Array.getElem?_eq_some_iff.1 hVo).1
  have HBX : Hid (∀ W', Below V.heap.size V W' → (W'.cell? ⟨h, 0, none⟩ = some (.slice p R.length cap) ∧ W'.cell? ⟨M, 0, none⟩ = some (.string k.1) ∧ W'.cell? ⟨M, 1, none⟩ = some (.string k.2)) ∧ (∀ i (hi : i < R.length), ∃ b off, p = some ⟨b, off, none⟩ ∧ W'.cell? ⟨b, off + i * 3, none⟩ = some (.string (R[i]).a) ∧ W'.cell? ⟨b, off + i * 3 + 1, none⟩ = some (.string (R[i]).b) ∧ W'.cell? ⟨b, off + i * 3 + 2, none⟩ = some (.pointer (some ⟨(R[i]).g, 0, none⟩))) ∧ Below W.heap.size W W') := fun W' hW => by
    have hb := bel_then hbV hbV.size hW
    have e1 := (hW.block M hMl).trans hVo
    have hx := x.on hb
    refine ⟨⟨hx.cell, by rw [Lib.cell_of_heap e1]; rfl, by rw [Lib.cell_of_heap e1]; rfl⟩, fun i hi => ?_, hb⟩
    obtain ⟨p', c', he, hd⟩ := Kind.own_is hx.row
    injection he with e2 _ _
    rcases hd with hd | ⟨b, off, e3, hat⟩
    · have : R.length = 0 := by simpa using congrArg List.length hd
      omega
    · obtain ⟨q0, q1, q2⟩ := krw_at hat i (by simpa using hi)
      rw [List.getElem_map] at q0 q1 q2
      exact ⟨b, off, e2.trans e3, q0, q1, q2⟩
  have hcl : cutK (R.map Rr.key) k ≤ R.length := by have := cutK_le (R.map Rr.key) k; rwa [List.length_map] at this
  have HLS : Hid (∀ i (hi : i < R.length), decide (Z.cmpI (R[i]).a (R[i]).b k.1 k.2 < 0) = decide (i < cutK (R.map Rr.key) k)) := fun i hi => by
    have := less_cut x.rise k i (by rw [List.length_map]; exact hi)
    rw [List.getElem_map] at this
    exact this
  have HEQ : Hid (∀ (hc : cutK (R.map Rr.key) k < R.length), (R[cutK (R.map Rr.key) k]).key ≠ k → ∀ r ∈ R, r.key ≠ k) := fun hc hne r hr e => by
    obtain ⟨h1, h2⟩ := cutK_at x.rise k (List.mem_map.2 ⟨r, hr, e⟩)
    rw [List.getElem_map] at h2
    exact hne h2
  have HNO : Hid (¬ cutK (R.map Rr.key) k < R.length → ∀ r ∈ R, r.key ≠ k) := fun hc r hr e => by
    obtain ⟨h1, _⟩ := cutK_at x.rise k (List.mem_map.2 ⟨r, hr, e⟩)
    rw [List.length_map] at h1
    exact hc h1
  obtain ⟨⟨c0, c1, c2⟩, _, _⟩ := HBX.out V (Below.refl _ _)
  have HZL := hid Z.zless_any
  generalize cutK (R.map Rr.key) k = C at *
  clear x hbV hVo hMl
  obtain ⟨ka, kb⟩ := k
  simp only at *
  go_enter Tryz.func33, Tryz.ntmps33
  go_wp2_with fail
  try rw [hV]
  try rw [hM]
  refine wp_region_held_drew (S := fun w' => w'.cell? ⟨h, 0, none⟩ = some (.slice p R.length cap)) (by kernel_rfl) c0 (fun hHeld => ?_)
  refine take_val (i := 0) (.pointer (some ⟨h, 0, none⟩)) rfl (by kernel_rfl) (by kernel_rfl) (by kernel_rfl) (fun _ _ _ h => h) (by rfl) (fun w hSw => by go_simp) hHeld ?_
  simp only [Act.put, List.setIfInBounds_toArray, List.set_cons_zero, List.set_cons_succ]
  refine take_val (i := 1) (.pointer (some ⟨h, 0, none⟩)) rfl (by kernel_rfl) (by kernel_rfl) (by kernel_rfl) (fun _ _ _ h => h) (by rfl) (fun w hSw => by go_simp) hHeld ?_
  simp only [Act.put, List.setIfInBounds_toArray, List.set_cons_zero, List.set_cons_succ]
  refine take_val (i := 2) (.pointer (some ⟨h, 0, none⟩)) rfl (by kernel_rfl) (by kernel_rfl) (by kernel_rfl) (fun _ _ _ h => h) (by rfl) (fun w hSw => by go_simp) hHeld ?_
  simp only [Act.put, List.setIfInBounds_toArray, List.set_cons_zero, List.set_cons_succ]
  refine take_val (i := 3) (.slice p R.length cap) rfl (by kernel_rfl) (by kernel_rfl) (by kernel_rfl) (fun _ _ _ h => h) (by rfl) (fun w hSw => by go_simp) hHeld ?_
  simp only [Act.put, List.setIfInBounds_toArray, List.set_cons_zero, List.set_cons_succ]
  refine take_val (i := 4) (.int .i64 R.length) rfl (by kernel_rfl) (by kernel_rfl) (by kernel_rfl) (fun _ _ _ h => h) (by rfl) (fun w hSw => by go_simp) hHeld ?_
  simp only [Act.put, List.setIfInBounds_toArray, List.set_cons_zero, List.set_cons_succ]
  refine take_val (i := 5) (.int .i64 0) rfl (by kernel_rfl) (by kernel_rfl) (by kernel_rfl) (fun _ _ _ h => h) (by rfl) (fun w hSw => by go_simp) hHeld ?_
  simp only [Act.put, List.setIfInBounds_toArray, List.set_cons_zero, List.set_cons_succ]
  refine take_val (i := 6) (.int .i64 R.length) rfl (by kernel_rfl) (by kernel_rfl) (by kernel_rfl) (fun _ _ _ h => h) (by rfl) (fun w hSw => by go_simp) hHeld ?_
  simp only [Act.put, List.setIfInBounds_toArray, List.set_cons_zero, List.set_cons_succ]
  refine wpAnyH_done (by kernel_rfl) ?_ _
  clear hHeld
  go_wp2_with fail
  go_loopg [5, 6] R.length (fun gg s5 s6 wr => ∃ lo hi : Nat, s5 = .int .i64 lo ∧ s6 = .int .i64 hi ∧ lo ≤ C ∧ C ≤ hi ∧ hi ≤ R.length ∧ hi - lo ≤ gg ∧ Hid (Below V.heap.size V wr))
  case atStart => exact ⟨0, R.length, rfl, rfl, Nat.zero_le _, hcl, Nat.le_refl _, by omega, bel_drewN (Below.refl _ _) 1⟩
  case round =>
    clear c0 c1 c2 hV
    obtain ⟨lo, hi, rfl, rfl, hlc, hch, hhd, hgk, HB⟩ := hrel
    obtain ⟨⟨c0, c1, c2⟩, hat, _⟩ := HBX.out wr HB.out
    by_cases hlt : lo < hi
    · obtain ⟨m, hmr, hm1, hm2, hltz, i1, i2, q0, q1⟩ := mid_all lo hi R.length hlt hhd hl
      obtain ⟨b, off, rfl, y0, y1, y2⟩ := hat m hmr
      have HLM := hid (HLS.out m hmr)
      have HB1 : Hid (∀ w3, Below (wr.drewN 1).heap.size (wr.drewN 1) w3 → Below V.heap.size V w3) := fun w3 h3 => bel_then (bel_drewN HB.out 1) HB.out.size h3
      have HY : Hid (∀ w3, Below V.heap.size V w3 → w3.cell? ⟨h, 0, none⟩ = some (.slice (some ⟨b, off, none⟩) R.length cap) ∧ w3.cell? ⟨b, off + m * 3, none⟩ = some (.string (R[m]).a) ∧ w3.cell? ⟨b, off + m * 3 + 1, none⟩ = some (.string (R[m]).b) ∧ w3.cell? ⟨M, 0, none⟩ = some (.string ka) ∧ w3.cell? ⟨M, 1, none⟩ = some (.string kb)) := fun w3 h3 => by
        obtain ⟨⟨z0, z1, z2⟩, z3, _⟩ := HBX.out w3 h3
        obtain ⟨b', off', e, z4, z5, _⟩ := z3 m hmr
        injection e with e
        injection e with e1 e2 _
        subst e1 e2
        exact ⟨z0, z4, z5, z1, z2⟩
      have HZ := hid (HZL.out (R[m]).a (R[m]).b ka kb (wr.drewN 1))
      rw [HLM.out] at HZ
      clear hat HLM
      generalize (R[m]).a = ra at *
      generalize (R[m]).b = rb at *
      have HQ := hid q1
      clear q1
      go_upto_region 4 with fail
      rw [HQ.out]
      clear HQ
      refine wp_region_held_drew (S := fun w' => w'.cell? ⟨h, 0, none⟩ = some (.slice (some ⟨b, off, none⟩) R.length cap) ∧ w'.cell? ⟨b, off + m * 3, none⟩ = some (.string ra) ∧ w'.cell? ⟨b, off + m * 3 + 1, none⟩ = some (.string rb) ∧ w'.cell? ⟨M, 0, none⟩ = some (.string ka) ∧ w'.cell? ⟨M, 1, none⟩ = some (.string kb)) (by kernel_rfl) ⟨c0, y0, y1, c1, c2⟩ (fun hHeld => ?_)
      refine take_val (i := 0) (.pointer (some ⟨h, 0, none⟩)) rfl (by kernel_rfl) (by kernel_rfl) (by kernel_rfl) (fun _ _ _ h => h) (by rfl) (fun w hSw => by go_simp) hHeld ?_
      simp only [Act.put, List.setIfInBounds_toArray, List.set_cons_zero, List.set_cons_succ]
      refine take_val (i := 1) (.pointer (some ⟨h, 0, none⟩)) rfl (by kernel_rfl) (by kernel_rfl) (by kernel_rfl) (fun _ _ _ h => h) (by rfl) (fun w hSw => by go_simp) hHeld ?_
      simp only [Act.put, List.setIfInBounds_toArray, List.set_cons_zero, List.set_cons_succ]
      refine take_val (i := 2) (.pointer (some ⟨h, 0, none⟩)) rfl (by kernel_rfl) (by kernel_rfl) (by kernel_rfl) (fun _ _ _ h => h) (by rfl) (fun w hSw => by go_simp) hHeld ?_
      simp only [Act.put, List.setIfInBounds_toArray, List.set_cons_zero, List.set_cons_succ]
      refine take_val (i := 3) (.slice (some ⟨b, off, none⟩) R.length cap) rfl (by kernel_rfl) (by kernel_rfl) (by kernel_rfl) (fun _ _ _ h => h) (by rfl) (fun w hSw => by go_simp) hHeld ?_
      simp only [Act.put, List.setIfInBounds_toArray, List.set_cons_zero, List.set_cons_succ]
      refine take_val (i := 4) (.int .i64 m) rfl (by kernel_rfl) (by kernel_rfl) (by kernel_rfl) (fun _ _ _ h => h) (by rfl) (fun w hSw => by go_simp) hHeld ?_
      simp only [Act.put, List.setIfInBounds_toArray, List.set_cons_zero, List.set_cons_succ]
      refine take_val (i := 5) (.pointer (some ⟨b, off + m * 3, none⟩)) rfl (by kernel_rfl) (by kernel_rfl) (by kernel_rfl) (fun _ _ _ h => h) (by rfl) (fun w hSw => by go_simp) hHeld ?_
      simp only [Act.put, List.setIfInBounds_toArray, List.set_cons_zero, List.set_cons_succ]
      refine take_val (i := 6) (.pointer (some ⟨b, off + m * 3, none⟩)) rfl (by kernel_rfl) (by kernel_rfl) (by kernel_rfl) (fun _ _ _ h => h) (by rfl) (fun w hSw => by go_simp) hHeld ?_
      simp only [Act.put, List.setIfInBounds_toArray, List.set_cons_zero, List.set_cons_succ]
      refine take_val (i := 7) (.agg #[.string ra, .string rb]) rfl (by kernel_rfl) (by kernel_rfl) (by kernel_rfl) (fun _ _ _ h => h) (by rfl) (fun w hSw => by go_simp) hHeld ?_
      simp only [Act.put, List.setIfInBounds_toArray, List.set_cons_zero, List.set_cons_succ]
      refine take_val (i := 8) (.agg #[.string ka, .string kb]) rfl (by kernel_rfl) (by kernel_rfl) (by kernel_rfl) (fun _ _ _ h => h) (by rfl) (fun w hSw => by go_simp) hHeld ?_
      simp only [Act.put, List.setIfInBounds_toArray, List.set_cons_zero, List.set_cons_succ]
      clear hHeld c0 c1 c2 y0 y1 y2
      refine wpAnyH_ready (rs := [9]) (by kernel_rfl) (by simp) ?_
      refine AllReadyH.cons (at_drop0 rfl) (fun K hK => ?_) AllReadyH.nil
      rw [if_pos (by rfl)]
      go_simp
      refine HZ.out.mono ?_
      rintro e w3 ⟨rfl, hb3⟩
      have HB3 := hid (HB1.out w3 hb3)
      have hS3 := HY.out w3 HB3.out
      clear hb3 HZ
      go_wp2_with fail
      refine hK.out _ _ hS3 (fun hHeld => ?_)
      clear hK K
      try simp only [Act.put, List.setIfInBounds_toArray, List.set_cons_zero, List.set_cons_succ]
      refine wpAnyH_done (by kernel_rfl) ?_ _
      clear hHeld hS3
      by_cases hmc : m < C
      · rw [decide_eq_true hmc]
        go_wp2_with fail
        go_roundg (hi - (m + 1))
        case measure => exact meas_up lo hi m gk hm1 hm2 hgk
        exact ⟨m + 1, hi, by go_num, rfl, hmc, hch, hhd, Nat.le_refl _, HB3.out⟩
      · rw [decide_eq_false hmc]
        go_wp2_with fail
        go_roundg (m - lo)
        case measure => exact meas_down lo hi m gk hm1 hm2 hgk
        exact ⟨lo, m, rfl, rfl, hlc, Nat.le_of_not_lt hmc, Nat.le_of_lt hmr, Nat.le_refl _, HB3.out⟩
    · have hle : lo = C := exit_num lo hi C hlc hch hlt
      have hnz := ge_num lo hi hlt
      subst hle
      clear HLS HZL hlt hgk
      by_cases hcR : lo < R.length
      · obtain ⟨hiz, i1⟩ := lt_num lo R.length hcR
        obtain ⟨b, off, rfl, y0, y1, y2⟩ := hat lo hcR
        have HEK := hid (HEQ.out hcR)
        have hmem : R[lo] ∈ R := List.getElem_mem hcR
        have HME : Hid ((R[lo]).key = (ka, kb) → ∃ r ∈ R, r.key = (ka, kb) ∧ r.g = (R[lo]).g) := fun e => ⟨_, hmem, e, rfl⟩
        clear HEQ HNO hat hmem
        have HK1 : Hid ((R[lo]).key = ((R[lo]).a, (R[lo]).b)) := rfl
        have HBL := hid (HBX.out wr HB.out).2.2
        generalize R[lo] = r at *
        obtain ⟨ra, rb, rg, rd, rvs, rgo⟩ := r
        simp only at *
        have qe := Z.eql_key ra rb ka kb
        rw [Z.eqK_iff (ra, rb) (ka, kb)] at qe
        obtain ⟨B, hB⟩ : ∃ B, decide ((ra, rb) = ((ka, kb) : Ky)) = B := ⟨_, rfl⟩
        rw [hB] at qe
        have HBB := hid hB
        clear hB
        go_upto_region 7 with fail
        refine wp_region_held_drew (S := fun w' => w'.cell? ⟨h, 0, none⟩ = some (.slice (some ⟨b, off, none⟩) R.length cap) ∧ w'.cell? ⟨b, off + lo * 3, none⟩ = some (.string ra) ∧ w'.cell? ⟨b, off + lo * 3 + 1, none⟩ = some (.string rb) ∧ w'.cell? ⟨M, 0, none⟩ = some (.string ka) ∧ w'.cell? ⟨M, 1, none⟩ = some (.string kb)) (by kernel_rfl) ⟨c0, y0, y1, c1, c2⟩ (fun hHeld => ?_)
        refine take_val (i := 0) (.int .i64 lo) rfl (by kernel_rfl) (by kernel_rfl) (by kernel_rfl) (fun _ _ _ h => h) (by rfl) (fun w hSw => by go_simp) hHeld ?_
        simp only [Act.put, List.setIfInBounds_toArray, List.set_cons_zero, List.set_cons_succ]
        refine take_val (i := 1) (.pointer (some ⟨h, 0, none⟩)) rfl (by kernel_rfl) (by kernel_rfl) (by kernel_rfl) (fun _ _ _ h => h) (by rfl) (fun w hSw => by go_simp) hHeld ?_
        simp only [Act.put, List.setIfInBounds_toArray, List.set_cons_zero, List.set_cons_succ]
        refine take_val (i := 2) (.pointer (some ⟨h, 0, none⟩)) rfl (by kernel_rfl) (by kernel_rfl) (by kernel_rfl) (fun _ _ _ h => h) (by rfl) (fun w hSw => by go_simp) hHeld ?_
        simp only [Act.put, List.setIfInBounds_toArray, List.set_cons_zero, List.set_cons_succ]
        refine take_val (i := 3) (.pointer (some ⟨h, 0, none⟩)) rfl (by kernel_rfl) (by kernel_rfl) (by kernel_rfl) (fun _ _ _ h => h) (by rfl) (fun w hSw => by go_simp) hHeld ?_
        simp only [Act.put, List.setIfInBounds_toArray, List.set_cons_zero, List.set_cons_succ]
        refine take_val (i := 4) (.slice (some ⟨b, off, none⟩) R.length cap) rfl (by kernel_rfl) (by kernel_rfl) (by kernel_rfl) (fun _ _ _ h => h) (by rfl) (fun w hSw => by go_simp) hHeld ?_
        simp only [Act.put, List.setIfInBounds_toArray, List.set_cons_zero, List.set_cons_succ]
        refine take_val (i := 5) (.int .i64 R.length) rfl (by kernel_rfl) (by kernel_rfl) (by kernel_rfl) (fun _ _ _ h => h) (by rfl) (fun w hSw => by go_simp) hHeld ?_
        simp only [Act.put, List.setIfInBounds_toArray, List.set_cons_zero, List.set_cons_succ]
        refine take_val (i := 6) (.bool true) rfl (by kernel_rfl) (by kernel_rfl) (by kernel_rfl) (fun _ _ _ h => h) (by rfl) (fun w hSw => by go_simp) hHeld ?_
        simp only [Act.put, List.setIfInBounds_toArray, List.set_cons_zero, List.set_cons_succ]
        refine take_val (i := 7) (.bool true) rfl (by kernel_rfl) (by kernel_rfl) (by kernel_rfl) (fun _ _ _ h => h) (by rfl) (fun w hSw => by go_simp) hHeld ?_
        simp only [Act.put, List.setIfInBounds_toArray, List.set_cons_zero, List.set_cons_succ]
        refine take_val (i := 8) (.pointer (some ⟨h, 0, none⟩)) rfl (by kernel_rfl) (by kernel_rfl) (by kernel_rfl) (fun _ _ _ h => h) (by rfl) (fun w hSw => by go_simp) hHeld ?_
        simp only [Act.put, List.setIfInBounds_toArray, List.set_cons_zero, List.set_cons_succ]
        refine take_val (i := 9) (.pointer (some ⟨h, 0, none⟩)) rfl (by kernel_rfl) (by kernel_rfl) (by kernel_rfl) (fun _ _ _ h => h) (by rfl) (fun w hSw => by go_simp) hHeld ?_
        simp only [Act.put, List.setIfInBounds_toArray, List.set_cons_zero, List.set_cons_succ]
        refine take_val (i := 10) (.pointer (some ⟨h, 0, none⟩)) rfl (by kernel_rfl) (by kernel_rfl) (by kernel_rfl) (fun _ _ _ h => h) (by rfl) (fun w hSw => by go_simp) hHeld ?_
        simp only [Act.put, List.setIfInBounds_toArray, List.set_cons_zero, List.set_cons_succ]
        refine take_val (i := 11) (.slice (some ⟨b, off, none⟩) R.length cap) rfl (by kernel_rfl) (by kernel_rfl) (by kernel_rfl) (fun _ _ _ h => h) (by rfl) (fun w hSw => by go_simp) hHeld ?_
        simp only [Act.put, List.setIfInBounds_toArray, List.set_cons_zero, List.set_cons_succ]
        refine take_val (i := 12) (.int .i64 lo) rfl (by kernel_rfl) (by kernel_rfl) (by kernel_rfl) (fun _ _ _ h => h) (by rfl) (fun w hSw => by go_simp) hHeld ?_
        simp only [Act.put, List.setIfInBounds_toArray, List.set_cons_zero, List.set_cons_succ]
        refine take_val (i := 13) (.pointer (some ⟨b, off + lo * 3, none⟩)) rfl (by kernel_rfl) (by kernel_rfl) (by kernel_rfl) (fun _ _ _ h => h) (by rfl) (fun w hSw => by go_simp) hHeld ?_
        simp only [Act.put, List.setIfInBounds_toArray, List.set_cons_zero, List.set_cons_succ]
        refine take_val (i := 14) (.pointer (some ⟨b, off + lo * 3, none⟩)) rfl (by kernel_rfl) (by kernel_rfl) (by kernel_rfl) (fun _ _ _ h => h) (by rfl) (fun w hSw => by go_simp) hHeld ?_
        simp only [Act.put, List.setIfInBounds_toArray, List.set_cons_zero, List.set_cons_succ]
        refine take_val (i := 15) (.agg #[.string ra, .string rb]) rfl (by kernel_rfl) (by kernel_rfl) (by kernel_rfl) (fun _ _ _ h => h) (by rfl) (fun w hSw => by go_simp) hHeld ?_
        simp only [Act.put, List.setIfInBounds_toArray, List.set_cons_zero, List.set_cons_succ]
        refine take_val (i := 16) (.agg #[.string ka, .string kb]) rfl (by kernel_rfl) (by kernel_rfl) (by kernel_rfl) (fun _ _ _ h => h) (by rfl) (fun w hSw => by go_simp) hHeld ?_
        simp only [Act.put, List.setIfInBounds_toArray, List.set_cons_zero, List.set_cons_succ]
        refine take_val (i := 17) (.bool B) rfl (by kernel_rfl) (by kernel_rfl) (by kernel_rfl) (fun _ _ _ h => h) (by rfl) (fun w hSw => by go_simp) hHeld ?_
        simp only [Act.put, List.setIfInBounds_toArray, List.set_cons_zero, List.set_cons_succ]
        refine take_val (i := 18) (.bool B) rfl (by kernel_rfl) (by kernel_rfl) (by kernel_rfl) (fun _ _ _ h => h) (by rfl) (fun w hSw => by go_simp) hHeld ?_
        simp only [Act.put, List.setIfInBounds_toArray, List.set_cons_zero, List.set_cons_succ]
        refine wpAnyH_done (by kernel_rfl) ?_ _
        clear hHeld
        cases B with
        | true =>
          obtain ⟨r, hr, e1, e2⟩ := HME.out (of_decide_eq_true HBB.out)
          go_wp2_with fail
          go_ret
          exact ⟨Or.inl ⟨r, hr, e1, by rw [e2]; rfl⟩, bel_drewN HBL.out 1⟩
        | false =>
          have hno := HEK.out (of_decide_eq_false HBB.out)
          have HNO2 := hid hno
          clear hno
          go_wp2_with fail
          go_ret
          exact ⟨Or.inr ⟨HNO2.out, _, rfl, HBL.out.size, heap_alloc_new _ _⟩, (bel_drewN HBL.out 1).alloc HBL.out.size _⟩
      · have hiz := ge_num lo R.length hcR
        have HNO2 := hid (HNO.out hcR)
        have HBL := hid (HBX.out wr HB.out).2.2
        clear HEQ HNO hat
        go_upto_region 7 with fail
        refine wp_region_held_drew (S := fun w' => w'.cell? ⟨h, 0, none⟩ = some (.slice p R.length cap)) (by kernel_rfl) c0 (fun hHeld => ?_)
        refine take_val (i := 0) (.int .i64 lo) rfl (by kernel_rfl) (by kernel_rfl) (by kernel_rfl) (fun _ _ _ h => h) (by rfl) (fun w hSw => by go_simp) hHeld ?_
        simp only [Act.put, List.setIfInBounds_toArray, List.set_cons_zero, List.set_cons_succ]
        refine take_val (i := 1) (.pointer (some ⟨h, 0, none⟩)) rfl (by kernel_rfl) (by kernel_rfl) (by kernel_rfl) (fun _ _ _ h => h) (by rfl) (fun w hSw => by go_simp) hHeld ?_
        simp only [Act.put, List.setIfInBounds_toArray, List.set_cons_zero, List.set_cons_succ]
        refine take_val (i := 2) (.pointer (some ⟨h, 0, none⟩)) rfl (by kernel_rfl) (by kernel_rfl) (by kernel_rfl) (fun _ _ _ h => h) (by rfl) (fun w hSw => by go_simp) hHeld ?_
        simp only [Act.put, List.setIfInBounds_toArray, List.set_cons_zero, List.set_cons_succ]
        refine take_val (i := 3) (.pointer (some ⟨h, 0, none⟩)) rfl (by kernel_rfl) (by kernel_rfl) (by kernel_rfl) (fun _ _ _ h => h) (by rfl) (fun w hSw => by go_simp) hHeld ?_
        simp only [Act.put, List.setIfInBounds_toArray, List.set_cons_zero, List.set_cons_succ]
        refine take_val (i := 4) (.slice p R.length cap) rfl (by kernel_rfl) (by kernel_rfl) (by kernel_rfl) (fun _ _ _ h => h) (by rfl) (fun w hSw => by go_simp) hHeld ?_
        simp only [Act.put, List.setIfInBounds_toArray, List.set_cons_zero, List.set_cons_succ]
        refine take_val (i := 5) (.int .i64 R.length) rfl (by kernel_rfl) (by kernel_rfl) (by kernel_rfl) (fun _ _ _ h => h) (by rfl) (fun w hSw => by go_simp) hHeld ?_
        simp only [Act.put, List.setIfInBounds_toArray, List.set_cons_zero, List.set_cons_succ]
        refine take_val (i := 6) (.bool false) rfl (by kernel_rfl) (by kernel_rfl) (by kernel_rfl) (fun _ _ _ h => h) (by rfl) (fun w hSw => by go_simp) hHeld ?_
        simp only [Act.put, List.setIfInBounds_toArray, List.set_cons_zero, List.set_cons_succ]
        refine take_val (i := 7) (.bool false) rfl (by kernel_rfl) (by kernel_rfl) (by kernel_rfl) (fun _ _ _ h => h) (by rfl) (fun w hSw => by go_simp) hHeld ?_
        simp only [Act.put, List.setIfInBounds_toArray, List.set_cons_zero, List.set_cons_succ]
        refine take_not (i := 8) rfl (by kernel_rfl) (by kernel_rfl) (by kernel_rfl) (fun _ _ _ h => h) (by rfl) hHeld ?_
        simp only [Act.put, List.setIfInBounds_toArray, List.set_cons_zero, List.set_cons_succ]
        refine take_not (i := 9) rfl (by kernel_rfl) (by kernel_rfl) (by kernel_rfl) (fun _ _ _ h => h) (by rfl) hHeld ?_
        simp only [Act.put, List.setIfInBounds_toArray, List.set_cons_zero, List.set_cons_succ]
        refine take_not (i := 10) rfl (by kernel_rfl) (by kernel_rfl) (by kernel_rfl) (fun _ _ _ h => h) (by rfl) hHeld ?_
        simp only [Act.put, List.setIfInBounds_toArray, List.set_cons_zero, List.set_cons_succ]
        refine take_not (i := 11) rfl (by kernel_rfl) (by kernel_rfl) (by kernel_rfl) (fun _ _ _ h => h) (by rfl) hHeld ?_
        simp only [Act.put, List.setIfInBounds_toArray, List.set_cons_zero, List.set_cons_succ]
        refine take_not (i := 12) rfl (by kernel_rfl) (by kernel_rfl) (by kernel_rfl) (fun _ _ _ h => h) (by rfl) hHeld ?_
        simp only [Act.put, List.setIfInBounds_toArray, List.set_cons_zero, List.set_cons_succ]
        refine take_not (i := 13) rfl (by kernel_rfl) (by kernel_rfl) (by kernel_rfl) (fun _ _ _ h => h) (by rfl) hHeld ?_
        simp only [Act.put, List.setIfInBounds_toArray, List.set_cons_zero, List.set_cons_succ]
        refine take_not (i := 14) rfl (by kernel_rfl) (by kernel_rfl) (by kernel_rfl) (fun _ _ _ h => h) (by rfl) hHeld ?_
        simp only [Act.put, List.setIfInBounds_toArray, List.set_cons_zero, List.set_cons_succ]
        refine take_not (i := 15) rfl (by kernel_rfl) (by kernel_rfl) (by kernel_rfl) (fun _ _ _ h => h) (by rfl) hHeld ?_
        simp only [Act.put, List.setIfInBounds_toArray, List.set_cons_zero, List.set_cons_succ]
        refine take_not (i := 16) rfl (by kernel_rfl) (by kernel_rfl) (by kernel_rfl) (fun _ _ _ h => h) (by rfl) hHeld ?_
        simp only [Act.put, List.setIfInBounds_toArray, List.set_cons_zero, List.set_cons_succ]
        refine take_not (i := 17) rfl (by kernel_rfl) (by kernel_rfl) (by kernel_rfl) (fun _ _ _ h => h) (by rfl) hHeld ?_
        simp only [Act.put, List.setIfInBounds_toArray, List.set_cons_zero, List.set_cons_succ]
        refine take_val (i := 18) (.bool false) rfl (by kernel_rfl) (by kernel_rfl) (by kernel_rfl) (fun _ _ _ h => h) (by rfl) (fun w hSw => by go_simp) hHeld ?_
        simp only [Act.put, List.setIfInBounds_toArray, List.set_cons_zero, List.set_cons_succ]
        refine wpAnyH_done (by kernel_rfl) ?_ _
        clear hHeld
        go_wp2_with fail
        go_ret
        exact ⟨Or.inr ⟨HNO2.out, _, rfl, HBL.out.size, heap_alloc_new _ _⟩, (bel_drewN HBL.out 1).alloc HBL.out.size _⟩

end Go.Proofs.YticfpkodoghnnaaGreat

/-
  The document's directory (stage 14; folioref07.Dir): Prune.
-/
namespace Go.Proofs.YticfpkodoghnnaaGreat
open Go.RowKit

theorem rcx_prune {n0 : Nat} {W : World} {g : Nat} {d : List Vx} {vs : Value} {gone : Nat} (h : RCx n0 W g d vs gone) (f : Int) :
    Calls Tryz.prog 57 #[.pointer (some ⟨g, 0, none⟩), .int .u64 f] W fun r w' => (∃ n : Nat, r = .returned (.int .i64 n)) ∧ RCx n0 w' g d vs (gone + pruneN ((d.drop gone).map Vx.ver) f) ∧ Fr (fun k => k = g) W w' := by
  refine (rprune_any g gone d vs f W h.ref h.prg.ok.rise fun k hk => ?_).mono ?_
  · have := h.nums k (by rw [List.length_map]; exact hk)
    rw [List.getElem_map] at this
    exact this
  · rintro r w' ⟨n, e1, hn, hR, hg⟩
    have fr : Fr (fun k => k = g) W w' := Fr.of_grown hg fun k hk => by simpa using hk.symm
    rw [← hn]
    exact ⟨⟨n, e1⟩, ⟨⟨hR.put, hR.f0, h.prg.base, fr.row (show W.ownsRow n0 39 5 vs d.length (KV.cells d) from h.prg.row) fun k hk => h.prg.off k (Or.inl hk), fun x hx => ⟨ownJ_fr (h.prg.each x hx).1 fr fun k hk => h.prg.off k (Or.inr ⟨x, hx, hk⟩), (h.prg.each x hx).2⟩, h.prg.off, h.prg.ok, h.prg.top⟩, hR.gn, hR.f1, hR.le, h.nums⟩, fr⟩

/-- A row behind a prune. -/
def Rr.pruned (f : Int) (r : Rr) : Rr := { r with gone := r.gone + pruneN ((r.d.drop r.gone).map Vx.ver) f }
theorem pruned_row (f : Int) (r : Rr) : (r.pruned f).row = (r.row.1, pruneV r.row.2 f) := by
  unfold Rr.pruned Rr.row Rr.all Rr.key pruneV
  simp only [List.map_drop, List.drop_drop]
theorem pruned_rows (f : Int) (R : List Rr) : (R.map (Rr.pruned f)).map Rr.row = pruneD (R.map Rr.row) f := by
  unfold pruneD
  rw [List.map_map, List.map_map]
  exact List.map_congr_left fun r _ => pruned_row f r

/-- One row turned, its blocks the same. -/
theorem RefD.turn {n0 : Nat} {W W' : World} {h : Nat} {A B : List Rr} {r r' : Rr} {vs : Value} (x : RefD n0 W h (A ++ r :: B) vs) (hk : r'.key = r.key) (hg : r'.g = r.g) (hbl : ∀ k, r'.blk k ↔ r.blk k) (f : Fr (fun k => k = r.g) W W') (hr : RCx n0 W' r'.g r'.d r'.vs r'.gone ∧ r'.d ≠ [] ∧ (r'.gone = 0 ∨ r'.gone < r'.d.length)) : RefD n0 W' h (A ++ r' :: B) vs := by
  have hgb : r.blk r.g := Or.inl rfl
  have hmem : r ∈ A ++ r :: B := List.mem_append_right _ List.mem_cons_self
  have hrw : (A ++ r' :: B).map Rr.rw = (A ++ r :: B).map Rr.rw := by
    rw [List.map_append, List.map_append, List.map_cons, List.map_cons]
    have : r'.rw = r.rw := by
      have h1 := congrArg Prod.fst hk
      have h2 := congrArg Prod.snd hk
      unfold Rr.key at h1 h2
      unfold Rr.rw
      simp only at h1 h2
      rw [h1, h2, hg]
    rw [this]
  have hap := List.pairwise_append.1 x.apart
  have hap2 := List.pairwise_cons.1 hap.2.1
  have hoff := x.off r hmem r.g hgb
  have hkeyB : keyB r'.a r'.b = true := by
    have := (x.each r hmem).2.2.2
    have h1 : r'.a = r.a := congrArg Prod.fst hk
    have h2 : r'.b = r.b := congrArg Prod.snd hk
    rw [h1, h2]
    exact this
  refine ⟨(f.block h (Array.getElem?_eq_some_iff.1 x.obj).1 (Ne.symm hoff.1)).trans x.obj, x.low, ?_, fun s hs => ?_, ?_, fun s hs k hk' => ?_, ?_⟩
  · rw [hrw]
    exact f.row (show W.ownsRow n0 KRw.T KRw.k vs _ _ from x.row) fun k h1 h2 => hoff.2 (by rw [← h2]; exact h1)
  · rcases List.mem_append.1 hs with hs | hs
    · have := x.each s (List.mem_append_left _ hs)
      exact ⟨this.1.fr f fun k h1 h2 => hap.2.2 s hs r List.mem_cons_self k h1 (by rw [h2]; exact hgb), this.2⟩
    · rcases List.mem_cons.1 hs with rfl | hs
      · exact ⟨hr.1, hr.2.1, hr.2.2, hkeyB⟩
      · have := x.each s (List.mem_append_right _ (List.mem_cons_of_mem _ hs))
        exact ⟨this.1.fr f fun k h1 h2 => hap2.1 s hs k (by rw [h2]; exact hgb) h1, this.2⟩
  · refine List.pairwise_append.2 ⟨hap.1, List.pairwise_cons.2 ⟨fun s hs k h1 => hap2.1 s hs k ((hbl k).1 h1), hap2.2⟩, fun a ha b hb k h1 h2 => ?_⟩
    rcases List.mem_cons.1 hb with rfl | hb
    · exact hap.2.2 a ha r List.mem_cons_self k h1 ((hbl k).1 h2)
    · exact hap.2.2 a ha b (List.mem_cons_of_mem _ hb) k h1 h2
  · rcases List.mem_append.1 hs with hs | hs
    · exact x.off s (List.mem_append_left _ hs) k hk'
    · rcases List.mem_cons.1 hs with rfl | hs
      · exact x.off r hmem k ((hbl k).1 hk')
      · exact x.off s (List.mem_append_right _ (List.mem_cons_of_mem _ hs)) k hk'
  · have : (A ++ r' :: B).map Rr.key = (A ++ r :: B).map Rr.key := by
      rw [List.map_append, List.map_append, List.map_cons, List.map_cons, hk]
    rw [this]
    exact x.rise

end Go.Proofs.YticfpkodoghnnaaGreat

/-
  The document's directory (stage 14; folioref07.Dir): Prune, its walk.
-/
namespace Go.Proofs.YticfpkodoghnnaaGreat
open Go.RowKit

/-- Half way through a prune. -/
def halfP (f : Int) (R : List Rr) (i : Nat) : List Rr := (R.take i).map (Rr.pruned f) ++ R.drop i
theorem halfP_len (f : Int) (R : List Rr) (i : Nat) (h : i ≤ R.length) : (halfP f R i).length = R.length := by
  unfold halfP
  rw [List.length_append, List.length_map, List.length_take, List.length_drop]
  omega
theorem halfP_at (f : Int) (R : List Rr) (i : Nat) (h : i < R.length) : halfP f R i = (R.take i).map (Rr.pruned f) ++ R[i] :: R.drop (i + 1) := by
  unfold halfP
  rw [← List.drop_eq_getElem_cons h]
theorem halfP_next (f : Int) (R : List Rr) (i : Nat) (h : i < R.length) : halfP f R (i + 1) = (R.take i).map (Rr.pruned f) ++ (R[i]).pruned f :: R.drop (i + 1) := by
  unfold halfP
  rw [List.take_succ_eq_append_getElem h, List.map_append, List.append_assoc]
  rfl
theorem pruned_gone {r : Rr} (h1 : r.d ≠ []) (h2 : r.gone = 0 ∨ r.gone < r.d.length) (f : Int) : (r.pruned f).gone = 0 ∨ (r.pruned f).gone < (r.pruned f).d.length := by
  have hc := cutV_le ((r.d.drop r.gone).map Vx.ver) f
  rw [List.length_map, List.length_drop] at hc
  have hl : r.d.length ≠ 0 := fun e => h1 (List.length_eq_zero_iff.1 e)
  show r.gone + (cutV ((r.d.drop r.gone).map Vx.ver) f - 1) = 0 ∨ r.gone + (cutV ((r.d.drop r.gone).map Vx.ver) f - 1) < r.d.length
  omega
set_option linter.unusedSimpArgs false in
set_option maxHeartbeats 8000000 in
set_option maxRecDepth 100000 in
theorem rprunes_any {n0 : Nat} {W : World} {h : Nat} {R : List Rr} {vs : Value} (x : RefD n0 W h R vs) (hl : R.length ≤ 2400000000000) (f : Int) :
    Calls Tryz.prog 29 #[.pointer (some ⟨h, 0, none⟩), .int .u64 f] W fun e w' => (∃ v, e = .returned v) ∧ RefD n0 w' h (R.map (Rr.pruned f)) vs ∧ Fr (BlkRD h R vs) W w' := by
  obtain ⟨p, cap, hvs⟩ := Kind.own_shape x.row
  rw [List.length_map] at hvs
  subst hvs
  have HRD : Hid (∀ w' i, i ≤ R.length → RefD n0 w' h (halfP f R i) (.slice p R.length cap) → w'.cell? ⟨h, 0, none⟩ = some (.slice p R.length cap) ∧ ∀ (hi : i < R.length), (∃ b off, p = some ⟨b, off, none⟩ ∧ w'.cell? ⟨b, off + i * 3 + 2, none⟩ = some (.pointer (some ⟨(R[i]).g, 0, none⟩))) ∧ Calls Tryz.prog 57 #[.pointer (some ⟨(R[i]).g, 0, none⟩), .int .u64 f] w' fun r w2 => (∃ n : Nat, r = .returned (.int .i64 n)) ∧ RefD n0 w2 h (halfP f R (i + 1)) (.slice p R.length cap) ∧ Fr (fun k => k = (R[i]).g) w' w2) := fun w' i hi x => by
    refine ⟨x.cell, fun hlt => ⟨?_, ?_⟩⟩
    · obtain ⟨p', c', he, hd⟩ := Kind.own_is x.row
      injection he with e2 _ _
      rcases hd with hd | ⟨b, off, e3, hat⟩
      · have h0 : (halfP f R i).length = 0 := by simpa using congrArg List.length hd
        rw [halfP_len f R i hi] at h0
        omega
      · have hlen := halfP_len f R i hi
        obtain ⟨_, _, q2⟩ := krw_at hat i (by rw [List.length_map]; omega)
        refine ⟨b, off, e2.trans e3, ?_⟩
        rw [q2, List.getElem_map]
        have : (halfP f R i)[i]'(by omega) = R[i] := by
          simp only [halfP_at f R i hlt]
          rw [List.getElem_append_right (by rw [List.length_map, List.length_take]; omega)]
          have e0 : i - ((R.take i).map (Rr.pruned f)).length = 0 := by rw [List.length_map, List.length_take]; omega
          simp only [e0, List.getElem_cons_zero]
        rw [this]
        rfl
    · have hm : R[i] ∈ halfP f R i := by rw [halfP_at f R i hlt]; exact List.mem_append_right _ List.mem_cons_self
      obtain ⟨q1, q2, q3, _⟩ := x.each _ hm
      refine (rcx_prune q1 f).mono fun r w2 q => ⟨q.1, ?_, q.2.2⟩
      rw [halfP_next f R i hlt]
      rw [halfP_at f R i hlt] at x
      exact x.turn rfl rfl (fun _ => Iff.rfl) q.2.2 ⟨q.2.1, q2, pruned_gone q2 q3 f⟩
  have HX0 : Hid (RefD n0 W h (halfP f R 0) (.slice p R.length cap)) := by
    show RefD _ _ _ _ _
    have : halfP f R 0 = R := by simp [halfP]
    rw [this]
    exact x
  have HEN : Hid (halfP f R R.length = R.map (Rr.pruned f)) := by show _ = _; simp [halfP]
  have HGB : Hid (∀ i (hi : i < R.length), BlkRD h R (.slice p R.length cap) (R[i]).g) := fun i hi => Or.inr (Or.inr ⟨_, List.getElem_mem hi, Or.inl rfl⟩)
  clear x
  go_enter Tryz.func29, Tryz.ntmps29
  go_wp2_with fail
  go_loopg [5, 6] R.length (fun gg s5 s6 wr => ∃ (i : Nat) (z : Int), s5 = .int .i64 z ∧ s6 = .int .i64 i ∧ i ≤ R.length ∧ R.length - i ≤ gg ∧ Hid (RefD n0 wr h (halfP f R i) (.slice p R.length cap) ∧ Fr (BlkRD h R (.slice p R.length cap)) W wr))
  case atStart => exact ⟨0, 0, rfl, rfl, Nat.zero_le _, Nat.le_refl _, HX0.out, Fr.refl _ _⟩
  case round =>
    clear HX0
    obtain ⟨i, z, rfl, rfl, hi, hgk, HS⟩ := hrel
    obtain ⟨c0, hrest⟩ := HRD.out wr i hi HS.out.1
    by_cases hlt : i < R.length
    · obtain ⟨hiz, i1⟩ := lt_num i R.length hlt
      obtain ⟨⟨b, off, rfl, y2⟩, hcall⟩ := hrest hlt
      have HC := hid hcall
      have HF := hid HS.out.2
      have HG := hid (HGB.out i hlt)
      clear hcall hrest HS HRD HGB
      generalize (R[i]).g = g at *
      go_wp2_with fail
      refine HC.out.mono ?_
      rintro e w3 ⟨⟨n, rfl⟩, hx3, f3⟩
      have HS3 : Hid (RefD n0 w3 h (halfP f R (i + 1)) (.slice (some ⟨b, off, none⟩) R.length cap) ∧ Fr (BlkRD h R (.slice (some ⟨b, off, none⟩) R.length cap)) W w3) := ⟨hx3, HF.out.then f3 fun k hk => Or.inl (by rw [hk]; exact HG.out)⟩
      clear hx3 f3 HC HF HG
      go_wp2_with fail
      go_roundg (R.length - (i + 1))
      case measure => exact meas_up i R.length i gk (Nat.le_refl _) hlt hgk
      exact ⟨i + 1, _, rfl, by go_num, hlt, Nat.le_refl _, HS3.out⟩
    · have hle : i = R.length := Nat.le_antisymm hi (Nat.le_of_not_lt hlt)
      have hiz := ge_num i R.length hlt
      subst hle
      clear hrest HRD
      go_wp2_with fail
      go_ret
      exact ⟨⟨_, rfl⟩, by rw [← HEN.out]; exact HS.out.1, HS.out.2⟩

end Go.Proofs.YticfpkodoghnnaaGreat

/-
  The document's directory (stage 14; folioref07.Dir): one row more. No walk.
-/
namespace Go.Proofs.YticfpkodoghnnaaGreat
open Go.RowKit

/-- A key that is not there, laid into its place: what the directory says then. -/
theorem rows_set {A B : List Rr} {r : Rr} (hA : ∀ s ∈ A, ltKy s.key r.key = true) (hB : ∀ s ∈ B, ltKy r.key s.key = true) : (A ++ r :: B).map Rr.row = setD r.key r.row.2 ((A ++ B).map Rr.row) := by
  induction A with
  | nil =>
    rw [List.nil_append, List.nil_append, List.map_cons]
    cases B with
    | nil => rfl
    | cons s B =>
      have := hB s List.mem_cons_self
      rw [List.map_cons, setD, if_pos (show ltKy r.key s.row.1 = true from this)]
      rfl
  | cons s A ih =>
    have h1 := hA s List.mem_cons_self
    have ih' := ih fun t ht => hA t (List.mem_cons_of_mem _ ht)
    rw [List.cons_append, List.cons_append, List.map_cons, List.map_cons, ih', setD]
    have hne : s.row.1 ≠ r.key := fun e => by
      have e' : s.key = r.key := e
      rw [e', totK.irr] at h1
      cases h1
    rw [if_neg fun h => ?_, if_neg hne]
    have := totK.tr _ _ _ h1 (show ltKy r.key s.key = true from h)
    rw [totK.irr] at this
    cases this

/-- The rows as they lie with one more, in a row of their own. -/
theorem RefD.insert {n0 : Nat} {W W' : World} {h : Nat} {A B : List Rr} {r : Rr} {vs vs' : Value} {P : Nat → Prop} (x : RefD n0 W h (A ++ B) vs) (f : Fr P W W') (hP : ∀ s ∈ A ++ B, ∀ k, s.blk k → ¬ P k)
    (obj : W'.heap[h]? = some (.cells #[vs'] 76 (0, 0))) (row : KRw.Own n0 W' vs' ((A ++ r :: B).map Rr.rw))
    (hr : RCx n0 W' r.g r.d r.vs r.gone ∧ r.d ≠ [] ∧ (r.gone = 0 ∨ r.gone < r.d.length) ∧ keyB r.a r.b = true) (hap : ∀ s ∈ A ++ B, ∀ k, s.blk k → ¬ r.blk k) (hoff : ∀ s ∈ A ++ r :: B, ∀ k, s.blk k → k ≠ h ∧ vs'.ownBlock ≠ some k)
    (hA : ∀ s ∈ A, ltKy s.key r.key = true) (hB : ∀ s ∈ B, ltKy r.key s.key = true) : RefD n0 W' h (A ++ r :: B) vs' := by
  have h1 := List.pairwise_append.1 x.apart
  refine ⟨obj, x.low, row, fun s hs => ?_, ?_, hoff, ?_⟩
  · have hsplit : s ∈ A ++ B ∨ s = r := by
      rcases List.mem_append.1 hs with hs | hs
      · exact Or.inl (List.mem_append_left _ hs)
      · rcases List.mem_cons.1 hs with hs | hs
        · exact Or.inr hs
        · exact Or.inl (List.mem_append_right _ hs)
    rcases hsplit with hs | rfl
    · exact ⟨(x.each s hs).1.fr f fun k hk => hP s hs k hk, (x.each s hs).2⟩
    · exact hr
  · refine List.pairwise_append.2 ⟨h1.1, List.pairwise_cons.2 ⟨fun s hs k k1 k2 => hap s (List.mem_append_right _ hs) k k2 k1, h1.2.1⟩, fun a ha b hb k k1 k2 => ?_⟩
    rcases List.mem_cons.1 hb with rfl | hb
    · exact hap a (List.mem_append_left _ ha) k k1 k2
    · exact h1.2.2 a ha b hb k k1 k2
  · have hx := x.rise
    rw [List.map_append] at hx ⊢
    obtain ⟨q1, q2, q3⟩ := List.pairwise_append.1 hx
    rw [List.map_cons]
    refine List.pairwise_append.2 ⟨q1, List.pairwise_cons.2 ⟨fun y hy => ?_, q2⟩, fun a ha b hb => ?_⟩
    · obtain ⟨s, hs, rfl⟩ := List.mem_map.1 hy
      exact hB s hs
    · rcases List.mem_cons.1 hb with rfl | hb
      · obtain ⟨s, hs, rfl⟩ := List.mem_map.1 ha
        exact hA s hs
      · exact q3 a ha b hb

end Go.Proofs.YticfpkodoghnnaaGreat

/-
  The document's directory (stage 14; folioref07.Dir): a row that is put to. No walk.
-/
namespace Go.Proofs.YticfpkodoghnnaaGreat
open Go.RowKit

/-- One row turned: only its blocks, and new ones, have. -/
theorem RefD.turn2 {n0 : Nat} {W W' : World} {h : Nat} {A B : List Rr} {r r' : Rr} {vs : Value} (x : RefD n0 W h (A ++ r :: B) vs) (hk : r'.key = r.key) (hg : r'.g = r.g) (hbl : ∀ k, r'.blk k → r.blk k ∨ W.heap.size ≤ k) (f : Fr r.blk W W') (hr : RCx n0 W' r'.g r'.d r'.vs r'.gone ∧ r'.d ≠ [] ∧ (r'.gone = 0 ∨ r'.gone < r'.d.length)) : RefD n0 W' h (A ++ r' :: B) vs := by
  have hmem : r ∈ A ++ r :: B := List.mem_append_right _ List.mem_cons_self
  have hrw : (A ++ r' :: B).map Rr.rw = (A ++ r :: B).map Rr.rw := by
    rw [List.map_append, List.map_append, List.map_cons, List.map_cons]
    have : r'.rw = r.rw := by
      have h1 := congrArg Prod.fst hk
      have h2 := congrArg Prod.snd hk
      unfold Rr.key at h1 h2
      unfold Rr.rw
      simp only at h1 h2
      rw [h1, h2, hg]
    rw [this]
  have hap := List.pairwise_append.1 x.apart
  have hap2 := List.pairwise_cons.1 hap.2.1
  have hoff := x.off r hmem
  have hlt : ∀ s ∈ A ++ r :: B, ∀ k, s.blk k → k < W.heap.size := fun s hs k hk => ((x.each s hs).1.prg.blk k hk).2
  have hkeyB : keyB r'.a r'.b = true := by
    have := (x.each r hmem).2.2.2
    have h1 : r'.a = r.a := congrArg Prod.fst hk
    have h2 : r'.b = r.b := congrArg Prod.snd hk
    rw [h1, h2]
    exact this
  have hhl : h < W.heap.size := (Array.getElem?_eq_some_iff.1 x.obj).1
  have hvl : ∀ k, vs.ownBlock = some k → k < W.heap.size := fun k hk => (World.ownsRow.lt (show W.ownsRow n0 KRw.T KRw.k vs _ _ from x.row) k hk).2
  refine ⟨(f.block h hhl fun e => (hoff h e).1 rfl).trans x.obj, x.low, ?_, fun s hs => ?_, ?_, fun s hs k hk' => ?_, ?_⟩
  · rw [hrw]
    exact f.row (show W.ownsRow n0 KRw.T KRw.k vs _ _ from x.row) fun k h1 h2 => (hoff k h2).2 h1
  · rcases List.mem_append.1 hs with hs | hs
    · have := x.each s (List.mem_append_left _ hs)
      exact ⟨this.1.fr f fun k h1 h2 => hap.2.2 s hs r List.mem_cons_self k h1 h2, this.2⟩
    · rcases List.mem_cons.1 hs with rfl | hs
      · exact ⟨hr.1, hr.2.1, hr.2.2, hkeyB⟩
      · have := x.each s (List.mem_append_right _ (List.mem_cons_of_mem _ hs))
        exact ⟨this.1.fr f fun k h1 h2 => hap2.1 s hs k h2 h1, this.2⟩
  · refine List.pairwise_append.2 ⟨hap.1, List.pairwise_cons.2 ⟨fun s hs k h1 h2 => ?_, hap2.2⟩, fun a ha b hb k h1 h2 => ?_⟩
    · rcases hbl k h1 with h3 | h3
      · exact hap2.1 s hs k h3 h2
      · have := hlt s (List.mem_append_right _ (List.mem_cons_of_mem _ hs)) k h2
        omega
    · rcases List.mem_cons.1 hb with rfl | hb
      · rcases hbl k h2 with h3 | h3
        · exact hap.2.2 a ha r List.mem_cons_self k h1 h3
        · have := hlt a (List.mem_append_left _ ha) k h1
          omega
      · exact hap.2.2 a ha b (List.mem_cons_of_mem _ hb) k h1 h2
  · rcases List.mem_append.1 hs with hs | hs
    · exact x.off s (List.mem_append_left _ hs) k hk'
    · rcases List.mem_cons.1 hs with rfl | hs
      · rcases hbl k hk' with h3 | h3
        · exact hoff k h3
        · exact ⟨by omega, fun e => by have := hvl k e; omega⟩
      · exact x.off s (List.mem_append_right _ (List.mem_cons_of_mem _ hs)) k hk'
  · have : (A ++ r' :: B).map Rr.key = (A ++ r :: B).map Rr.key := by
      rw [List.map_append, List.map_append, List.map_cons, List.map_cons, hk]
    rw [this]
    exact x.rise

/-- A key that is there is put to: what the directory says then. -/
theorem rows_put {A B : List Rr} {r r' : Rr} (hk : r'.key = r.key) (hA : ∀ s ∈ A, ltKy s.key r.key = true) : (A ++ r' :: B).map Rr.row = setD r.key r'.row.2 ((A ++ r :: B).map Rr.row) := by
  induction A with
  | nil =>
    rw [List.nil_append, List.nil_append, List.map_cons, List.map_cons, setD]
    have h1 : ¬ ltKy r.key r.row.1 = true := by
      show ¬ ltKy r.key r.key = true
      rw [totK.irr]
      simp
    rw [if_neg h1, if_pos (show r.row.1 = r.key from rfl)]
    have : r'.row = (r.key, r'.row.2) := by rw [← hk]; rfl
    rw [← this]
  | cons s A ih =>
    have h1 := hA s List.mem_cons_self
    have ih' := ih fun t ht => hA t (List.mem_cons_of_mem _ ht)
    rw [List.cons_append, List.cons_append, List.map_cons, List.map_cons, ih', setD]
    have hne : s.row.1 ≠ r.key := fun e => by
      have e' : s.key = r.key := e
      rw [e', totK.irr] at h1
      cases h1
    rw [if_neg fun h => ?_, if_neg hne]
    have := totK.tr _ _ _ h1 (show ltKy r.key s.key = true from h)
    rw [totK.irr] at this
    cases this

theorem ofD_row {n0 : Nat} {W : World} {h : Nat} {R : List Rr} {vs : Value} (x : RefD n0 W h R vs) {r : Rr} (hr : r ∈ R) : ofD (R.map Rr.row) r.key = r.row.2 := ofD_mem (r := r.row) x.ok (List.mem_map_of_mem hr)
theorem ofD_no : ∀ {R : List Rr} {k : Ky}, (∀ r ∈ R, r.key ≠ k) → ofD (R.map Rr.row) k = []
  | [], _, _ => rfl
  | r :: R, k, h => by
    rw [List.map_cons, ofD, if_neg (show ¬ r.row.1 = k from h r List.mem_cons_self)]
    exact ofD_no fun s hs => h s (List.mem_cons_of_mem _ hs)

/-- What a row says behind a put. -/
theorem row_put {r : Rr} {d' : List Vx} {vs' : Value} (h1 : r.d ≠ []) (h2 : r.gone = 0 ∨ r.gone < r.d.length) (stamp tick : Int) (live : Bool) (val : List Fld) (hd : d'.map Vx.ver = putL (r.d.map Vx.ver) stamp tick live val) :
    ({ r with d := d', vs := vs' } : Rr).row.2 = putL r.row.2 stamp tick live val ∧ putC r.row.2 stamp live val = putC (r.d.map Vx.ver) stamp live val := by
  have hl : r.d.length ≠ 0 := fun e => h1 (List.length_eq_zero_iff.1 e)
  have hla : lastV r.row.2 = lastV (r.d.map Vx.ver) := by
    show lastV ((r.d.map Vx.ver).drop r.gone) = _
    exact lastV_drop (by rw [List.length_map]; omega)
  have hc : putC r.row.2 stamp live val = putC (r.d.map Vx.ver) stamp live val := by
    unfold putC putCode
    rw [hla]
  refine ⟨?_, hc⟩
  show (d'.map Vx.ver).drop r.gone = _
  rw [hd]
  unfold putL
  rw [hc]
  split
  · unfold putV
    rw [List.drop_append_of_le_length (by rw [List.length_map]; omega), hla]
    rfl
  · rfl

/-- A new chain. -/
theorem rcx_new {n0 g : Nat} {W : World} (hn : n0 ≤ g) (hg : W.heap[g]? = some (.cells #[.slice none 0 0, .int .i64 0] 113 (0, 0))) : RCx n0 W g [] (.slice none 0 0) 0 :=
  ⟨⟨by rw [Lib.cell_of_heap hg]; rfl, Lib.frozen_of_heap hg 0, hn, Kind.own_nil _ _ _, (fun x hx => by cases hx), (fun k hk => by
    rcases hk with hk | ⟨x, hx, _⟩
    · cases hk
    · cases hx), ok_nil, by show (0 : Int) ≤ _; omega⟩, by rw [Lib.cell_of_heap hg]; rfl, Lib.frozen_of_heap hg 1, Nat.le_refl _, (fun k h => by simp at h)⟩

def NumsV (l : List Vr) : Prop := ∀ k, (h : k < l.length) → (l[k]).num = (k : Int) + 1
theorem nums_last {l : List Vr} (h : NumsV l) : (lastV l).num = (l.length : Int) := by
  by_cases h0 : 0 < l.length
  · rw [lastV_get h0, h _ (by omega)]
    omega
  · have : l = [] := List.length_eq_zero_iff.1 (by omega)
    subst this
    rfl
theorem nums_put {l : List Vr} (h : NumsV l) (stamp tick : Int) (live : Bool) (val : List Fld) : NumsV (putL l stamp tick live val) := by
  unfold putL
  split
  · intro k hk
    unfold putV at hk ⊢
    by_cases hkl : k < l.length
    · rw [List.getElem_append_left hkl]
      exact h k hkl
    · rw [List.length_append, List.length_singleton] at hk
      have e : k = l.length := by omega
      subst e
      rw [List.getElem_append_right (Nat.le_refl _)]
      simp only [Nat.sub_self, List.getElem_cons_zero]
      rw [nums_last h]
  · exact h
theorem putL_len (l : List Vr) (stamp tick : Int) (live : Bool) (val : List Fld) : l.length ≤ (putL l stamp tick live val).length ∧ (putL l stamp tick live val).length ≤ l.length + 1 := by
  unfold putL
  split
  · rw [putV_len]
    omega
  · omega

/-- What Put leaves of the document's directory. -/
def RPut (n0 : Nat) (W : World) (h : Nat) (R : List Rr) (vs : Value) (nr : Nat) (D' : List RowD) (w' : World) : Prop :=
  ∃ R' vs', RefD n0 w' h R' vs' ∧ R'.map Rr.row = D' ∧ R'.length ≤ nr + 1 ∧ (∀ r ∈ R', r.d.length ≤ nr + 1) ∧ Fr (BlkRD h R vs) W w' ∧ ∀ k, BlkRD h R' vs' k → BlkRD h R vs k ∨ W.heap.size ≤ k

section
variable {n0 : Nat} {W : World} {h : Nat} {R : List Rr} {vs : Value} {nr : Nat}
theorem rput_same (x : RefD n0 W h R vs) (hl : R.length ≤ nr) (hd : ∀ r ∈ R, r.d.length ≤ nr) {w' : World} (hb : Below W.heap.size W w') : RPut n0 W h R vs nr (R.map Rr.row) w' :=
  ⟨R, vs, x.on hb, rfl, by omega, fun r hr => by have := hd r hr; omega, Fr.of_below hb, fun k hk => Or.inl hk⟩

/-- A key that is there. -/
theorem rput_found (x : RefD n0 W h R vs) (hl : R.length ≤ nr) (hd : ∀ r ∈ R, r.d.length ≤ nr) {w2 w3 : World} (hb : Below W.heap.size W w2) {r : Rr} (hr : r ∈ R) {stamp tick : Int} {live : Bool} {val : List Fld}
    (t : TurnC n0 w2 r.g r.d r.vs (putL (r.d.map Vx.ver) stamp tick live val) w3) (hg : Gn w2 w3 r.g) : RPut n0 W h R vs nr (putD (R.map Rr.row) r.key stamp tick live val) w3 := by
  obtain ⟨d', vs', hC, hv, hblk, f⟩ := t
  obtain ⟨A, B, rfl⟩ := List.append_of_mem hr
  have x2 := x.on hb
  obtain ⟨e1, e2, e3, e4⟩ := x2.each r hr
  have hA : ∀ s ∈ A, ltKy s.key r.key = true := by
    have := x.rise
    rw [List.map_append, List.map_cons] at this
    have := (List.pairwise_append.1 this).2.2
    exact fun s hs => this _ (List.mem_map_of_mem hs) _ List.mem_cons_self
  have hlen := putL_len (r.d.map Vx.ver) stamp tick live val
  have hdl : d'.length = (putL (r.d.map Vx.ver) stamp tick live val).length := by rw [← hv, List.length_map]
  rw [← hdl, List.length_map] at hlen
  have hn := nums_put (l := r.d.map Vx.ver) e1.nums stamp tick live val
  rw [← hv] at hn
  obtain ⟨g1, g2⟩ := hg _ e1.gn e1.fz
  have hrl : r.d.length ≠ 0 := fun e => e2 (List.length_eq_zero_iff.1 e)
  have hgone : r.gone = 0 ∨ r.gone < d'.length := by omega
  have hle : r.gone ≤ d'.length := by have := e1.le; omega
  have hx3 : RefD n0 w3 h (A ++ { r with d := d', vs := vs' } :: B) vs :=
    x2.turn2 (r' := { r with d := d', vs := vs' }) rfl rfl hblk f ⟨⟨hC, g1, g2, hle, hn⟩, (fun e => by have e' : d' = [] := e; rw [e', List.length_nil] at hlen; omega), hgone⟩
  refine ⟨_, vs, hx3, ?_, ?_, fun s hs => ?_, ?_, fun k hk => ?_⟩
  · obtain ⟨q1, q2⟩ := row_put (vs' := vs') e2 e3 stamp tick live val hv
    have hof := ofD_row x hr
    have hcd : codeD ((A ++ r :: B).map Rr.row) r.key stamp live val = putC (r.d.map Vx.ver) stamp live val := by
      unfold codeD
      rw [if_pos (show keyB r.key.1 r.key.2 = true from e4), hof, q2]
    rw [rows_put (r' := { r with d := d', vs := vs' }) (r := r) rfl hA, q1]
    unfold putD
    rw [hcd, hof]
    unfold putL
    rw [q2]
    split
    · rfl
    · have hne : ofD ((A ++ r :: B).map Rr.row) r.key ≠ [] := by
        rw [hof]
        exact (x.ok.ok r.row (List.mem_map_of_mem hr)).2
      have := setD_id (k := r.key) x.ok hne
      rw [hof] at this
      exact this
  · simp only [List.length_append, List.length_cons] at hl ⊢
    omega
  · rcases List.mem_append.1 hs with hs | hs
    · have := hd s (List.mem_append_left _ hs)
      omega
    · rcases List.mem_cons.1 hs with rfl | hs
      · have := hd r hr
        show d'.length ≤ _
        omega
      · have := hd s (List.mem_append_right _ (List.mem_cons_of_mem _ hs))
        omega
  · exact (Fr.of_below hb).then f fun k hk => Or.inl (Or.inr (Or.inr ⟨r, hr, hk⟩))
  · rcases hk with hk | hk | ⟨s, hs, hk⟩
    · exact Or.inl (Or.inl hk)
    · exact Or.inl (Or.inr (Or.inl hk))
    · rcases List.mem_append.1 hs with hs | hs
      · exact Or.inl (Or.inr (Or.inr ⟨s, List.mem_append_left _ hs, hk⟩))
      · rcases List.mem_cons.1 hs with rfl | hs
        · rcases hblk k hk with q | q
          · exact Or.inl (Or.inr (Or.inr ⟨r, hr, q⟩))
          · exact Or.inr (Nat.le_trans hb.size q)
        · exact Or.inl (Or.inr (Or.inr ⟨s, List.mem_append_right _ (List.mem_cons_of_mem _ hs), hk⟩))

/-- A key that is not there: its row has been laid between the others. -/
theorem rput_new (x : RefD n0 W h R vs) (hn0 : n0 ≤ W.heap.size) (hl : R.length ≤ nr) (hd : ∀ r ∈ R, r.d.length ≤ nr) {w2 w3 w4 : World} (hb : Below W.heap.size W w2) {ka kb : ByteArray} (hno : ∀ r ∈ R, r.key ≠ (ka, kb)) (hkey : keyB ka kb = true) {g : Nat} (hgW : W.heap.size ≤ g) (hgo : w2.heap[g]? = some (.cells #[.slice none 0 0, .int .i64 0] 113 (0, 0)))
    {stamp tick : Int} {live : Bool} {val : List Fld} (hc : putC [] stamp live val = 0) (t : TurnC n0 w2 g [] (.slice none 0 0) (putL [] stamp tick live val) w3) (hg : Gn w2 w3 g) (hb4 : Below w3.heap.size w3 w4) {rv : Value}
    (ho : KRw.Own w3.heap.size w4 rv ((R.take (cutK (R.map Rr.key) (ka, kb))).map Rr.rw ++ ⟨ka, kb, g⟩ :: (R.drop (cutK (R.map Rr.key) (ka, kb))).map Rr.rw)) : RPut n0 W h R vs nr (putD (R.map Rr.row) (ka, kb) stamp tick live val) (w4.setCell ⟨h, 0, none⟩ rv) := by
  obtain ⟨C, hC⟩ : ∃ C, cutK (R.map Rr.key) (ka, kb) = C := ⟨_, rfl⟩
  rw [hC] at ho
  have hcl : C ≤ R.length := by rw [← hC]; have := cutK_le (R.map Rr.key) (ka, kb); rwa [List.length_map] at this
  have hcut : ∀ i (hi : i < R.length), (ltKy (R[i]).key (ka, kb) = true ↔ i < C) := fun i hi => by
    have := cutK_lt x.rise (ka, kb) i (by rw [List.length_map]; exact hi)
    rw [List.getElem_map, hC] at this
    exact this
  obtain ⟨d', vs', hP, hv, hblk, f⟩ := t
  have r0 := rcx_new (Nat.le_trans hn0 hgW) hgo
  obtain ⟨g1, g2⟩ := hg _ r0.gn r0.fz
  have hn := nums_put (l := ([] : List Vr)) (fun k h => by simp at h) stamp tick live val
  rw [← hv] at hn
  have hdl : d'.length = 1 := by
    have := congrArg List.length hv
    rw [List.length_map] at this
    rw [this]
    unfold putL
    rw [if_pos hc, putV_len]
    rfl
  have hhl : h < W.heap.size := (Array.getElem?_eq_some_iff.1 x.obj).1
  have hs2 := hb.size
  have hs3 := f.size
  have hnil : ∀ k, BlkC g ([] : List Vx) (.slice none 0 0) k → k = g := fun k hk => by
    rcases hk with hk | hk | ⟨_, hx, _⟩
    · exact hk
    · cases hk
    · cases hx
  have hrb : ∀ k, BlkC g d' vs' k → W.heap.size ≤ k ∧ k < w3.heap.size := fun k hk => by
    refine ⟨?_, (hP.blk k hk).2⟩
    rcases hblk k hk with q | q
    · rw [hnil k q]; exact hgW
    · omega
  have f3 : Fr (fun k => k = h) W w3 := (Fr.of_below hb).then f fun k hk => Or.inr (by rw [hnil k hk]; exact hgW)
  have f4 : Fr (fun k => k = h) W w4 := f3.then (Fr.of_below (P := fun _ => False) hb4) fun _ q => q.elim
  have f5 : Fr (fun k => k = h) W (w4.setCell ⟨h, 0, none⟩ rv) := f4.then ⟨rfl, rfl, rfl, by simp, fun k _ hn => heap_setCell_other _ _ k _ hn⟩ fun k (hk : k = h) => Or.inl hk
  have f45 : Fr (fun k => k = h) w4 (w4.setCell ⟨h, 0, none⟩ rv) := ⟨rfl, rfl, rfl, by simp, fun k _ hn => heap_setCell_other _ _ k _ hn⟩
  have hob4 : w4.heap[h]? = some (.cells #[vs] 76 (0, 0)) := by
    have f9 : Fr (fun _ => False) W w3 := (Fr.of_below hb).then (f.mono hnil) fun k hk => Or.inr (by rw [hk]; exact hgW)
    exact (hb4.block h (by omega)).trans ((f9.block h hhl fun q => q).trans x.obj)
  have hrv : ∀ k, rv.ownBlock = some k → w3.heap.size ≤ k := fun k hk => (World.ownsRow.lt (show w4.ownsRow w3.heap.size KRw.T KRw.k rv _ _ from ho) k hk).1
  have hRC : RCx n0 (w4.setCell ⟨h, 0, none⟩ rv) g d' vs' 0 := by
    have r3 : RCx n0 w3 g d' vs' 0 := ⟨hP, g1, g2, Nat.zero_le _, hn⟩
    exact (r3.fr (P := fun _ => False) (Fr.of_below hb4) fun _ _ q => q).fr f45 fun k hk e => by
      have := (hrb k hk).1
      omega
  have hsplit : R.take C ++ R.drop C = R := List.take_append_drop C R
  have hx : RefD n0 W h (R.take C ++ R.drop C) vs := by rw [hsplit]; exact x
  have hltB : ∀ s ∈ R, ∀ k, s.blk k → k < W.heap.size := fun s hs k hk => ((x.each s hs).1.prg.blk k hk).2
  have hA : ∀ s ∈ R.take C, ltKy s.key (ka, kb) = true := fun s hs => by
    obtain ⟨i, hi, rfl⟩ := List.mem_iff_getElem.1 hs
    rw [List.length_take] at hi
    rw [List.getElem_take]
    exact (hcut i (by omega)).2 (by omega)
  have hB : ∀ s ∈ R.drop C, ltKy (ka, kb) s.key = true := fun s hs => by
    have hs' := List.mem_of_mem_drop hs
    obtain ⟨i, hi, rfl⟩ := List.mem_iff_getElem.1 hs
    rw [List.length_drop] at hi
    rw [List.getElem_drop] at hs' ⊢
    rcases totK.tot (R[C + i]).key (ka, kb) with q | q | q
    · have := (hcut (C + i) (by omega)).1 q
      omega
    · exact absurd q (hno _ hs')
    · exact q
  have hfin := hx.insert (r := ⟨ka, kb, g, d', vs', 0⟩) (vs' := rv) f5 (fun s hs k hk e => by
      rw [hsplit] at hs
      exact (x.off s hs k hk).1 e) (heap_setCell_same _ h 0 _ _ _ hob4) (by
      rw [List.map_append, List.map_cons]
      exact Kind.own_weak (K := KRw) (f45.row (show w4.ownsRow w3.heap.size KRw.T KRw.k rv _ _ from ho) fun k hk e => by have := hrv k hk; omega) (by omega))
    ⟨hRC, (fun e => by have e' : d' = [] := e; rw [e'] at hdl; cases hdl), Or.inl rfl, hkey⟩ (fun s hs k hk hk2 => by
      rw [hsplit] at hs
      have h1 := hltB s hs k hk
      have h2 := (hrb k hk2).1
      omega) (fun s hs k hk => by
      rcases List.mem_append.1 hs with hs | hs
      · have h1 := x.off s (List.mem_of_mem_take hs) k hk
        have h2 := hltB s (List.mem_of_mem_take hs) k hk
        exact ⟨h1.1, fun e => by have := hrv k e; omega⟩
      · rcases List.mem_cons.1 hs with rfl | hs
        · have h2 := hrb k hk
          exact ⟨by omega, fun e => by have := hrv k e; omega⟩
        · have h1 := x.off s (List.mem_of_mem_drop hs) k hk
          have h2 := hltB s (List.mem_of_mem_drop hs) k hk
          exact ⟨h1.1, fun e => by have := hrv k e; omega⟩) hA hB
  refine ⟨_, rv, hfin, ?_, ?_, fun s hs => ?_, f5.mono fun k hk => Or.inl hk, fun k hk => ?_⟩
  · rw [rows_set hA hB, hsplit]
    have hof := ofD_no hno
    unfold putD codeD
    rw [if_pos hkey, hof, if_pos hc]
    show setD (ka, kb) (d'.map Vx.ver) _ = _
    rw [hv]
    unfold putL
    rw [if_pos hc]
  · rw [List.length_append, List.length_cons, List.length_take, List.length_drop]
    omega
  · rcases List.mem_append.1 hs with hs | hs
    · have := hd s (List.mem_of_mem_take hs)
      omega
    · rcases List.mem_cons.1 hs with rfl | hs
      · show d'.length ≤ _
        omega
      · have := hd s (List.mem_of_mem_drop hs)
        omega
  · rcases hk with hk | hk | ⟨s, hs, hk⟩
    · exact Or.inl (Or.inl hk)
    · have := hrv k hk
      exact Or.inr (by omega)
    · rcases List.mem_append.1 hs with hs | hs
      · exact Or.inl (Or.inr (Or.inr ⟨s, List.mem_of_mem_take hs, hk⟩))
      · rcases List.mem_cons.1 hs with rfl | hs
        · exact Or.inr (hrb k hk).1
        · exact Or.inl (Or.inr (Or.inr ⟨s, List.mem_of_mem_drop hs, hk⟩))
end

end Go.Proofs.YticfpkodoghnnaaGreat
