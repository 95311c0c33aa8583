/-
  Texts of this claim, one behind the other: Rkq Rk0 Rkw.
-/
import Derived.Test.YtinmagodckkedaaPe
import Derived.Test.YtinmagodckkedaaPd
import Derived.Laws.CopyOwn
import Derived.Maps.AppendAt
import Derived.Deep.CutRange
import Derived.Deep.RegionWith
/-
  Two keys in an array that came in.
-/
namespace Go.Proofs.Ytinmagodckkedaa
open Go.ChangeShapes Go.WideShapes Go.ChangeAt Go.RowKit Go.Lib Go.Deep Go.Joins

theorem Try.cellsKy2 : Try.prog.cellsOf 45 = 4 := by kernel_rfl
theorem Try.arrKy2 : Try.prog.underlying 45 = some (.array 2 31) := by kernel_rfl

set_option maxRecDepth 100000 in
theorem open_key2 {H : Type} {enc : TypeId × Value → H} {W : World} {b0 : Nat} {v : Value} {d : DataW H} {p : List MemPlace}
    (hv : Value.okWide Try.prog W .any b0 45 v) (h : DataW.Trod enc Try.prog W 0 (fun _ => true) true 45 v d p) :
    ∃ a b : Ky, v = .agg #[.string a.1, .string a.2, .string b.1, .string b.2] ∧ (a.1.size ≤ maxLen ∧ a.2.size ≤ maxLen) ∧ b.1.size ≤ maxLen ∧ b.2.size ≤ maxLen := by
  obtain ⟨cs, rfl, hsz⟩ : ∃ cs, v = .agg cs ∧ cs.size = Try.prog.cellsOf 45 := by
    simp only [Value.okWide, Try.arrKy2] at hv
    obtain ⟨cs, h1, h2, _⟩ := hv
    exact ⟨cs, h1, h2⟩
  rw [Try.cellsKy2] at hsz
  obtain ⟨fuel, hf⟩ := h
  obtain ⟨xs, m, _, _, _, hxl, hall⟩ := DataW.trod_array Try.arrKy2 hf
  have h0 := hall 0 (by omega)
  have h1 := hall 1 (by omega)
  rw [Try.cellsKy] at h0 h1
  match xs, hxl with
  | [y0, y1], _ =>
    obtain ⟨l⟩ := cs
    match l, hsz with
    | [c0, c1, c2, c3], _ =>
      simp [Value.cells] at h0 h1
      obtain ⟨a, ea, ha1, ha2⟩ := open_ky h0
      obtain ⟨b, eb, hb1, hb2⟩ := open_ky h1
      simp only [encKy, List.cons.injEq, and_true] at ea eb
      exact ⟨a, b, by rw [ea.1, ea.2, eb.1, eb.2], ⟨ha1, ha2⟩, hb1, hb2⟩

end Go.Proofs.Ytinmagodckkedaa

/-
  What RefsKeeps makes and writes: rows with spare room; two values that are written over, one behind the other.
-/
namespace Go.Proofs.Ytinmagodckkedaa
open Go.RowKit Go.Lib

def markK : ByteArray := ⟨#[109, 97, 114, 107]⟩

/-- The texts of x lie in a block of their own at or behind N, with one cell of spare room: the mark. -/
def RoomK (N : Nat) (W : World) (x : Fx) : Prop :=
  ∃ g, x.p = some ⟨g, 0, none⟩ ∧ x.cap = x.txt.length + 1 ∧ N ≤ g ∧ W.heap[g]? = some (.cells (x.txt.map Value.string ++ [Value.string markK]).toArray 9 (0, 0))

theorem RoomK.on {N : Nat} {W W' : World} {x : Fx} (h : RoomK N W x) (hb : Below W.heap.size W W') : RoomK N W' x := by
  obtain ⟨g, h1, h2, h3, h4⟩ := h
  exact ⟨g, h1, h2, h3, (hb.block g (Array.getElem?_eq_some_iff.1 h4).1).trans h4⟩

theorem RoomK.else {N m0 : Nat} {W W' : World} {x : Fx} {e : TypeId} {size : Nat} {u : Value} {m : Nat} {ys : List Value} (h : RoomK N W x) (hu : W.ownsRow m0 e size u m ys) (hne : e ≠ 9) (hg : W.grownBy W' u.ownBlock) : RoomK N W' x := by
  obtain ⟨g, h1, h2, h3, h4⟩ := h
  refine ⟨g, h1, h2, h3, (hg.block g (Array.getElem?_eq_some_iff.1 h4).1 fun e2 => ?_).trans h4⟩
  obtain ⟨cs', h5⟩ := own_type hu e2.symm
  rw [h4] at h5
  injection h5 with h5
  injection h5 with _ h5
  exact hne h5.symm

theorem RoomK.at {N : Nat} {W : World} {x : Fx} (h : RoomK N W x) : x.at W := by
  obtain ⟨g, h1, _, _, h4⟩ := h
  refine Or.inr ⟨g, 0, h1, fun i hi => ?_⟩
  rw [Nat.zero_add, cell_of_row W g i _ _ _ h4]
  simp [List.getElem?_append, hi]

theorem RoomK.mark {N : Nat} {W : World} {x : Fx} (h : RoomK N W x) : ∃ g, x.p = some ⟨g, 0, none⟩ ∧ x.cap = x.txt.length + 1 ∧ W.cell? ⟨g, x.txt.length, none⟩ = some (.string markK) := by
  obtain ⟨g, h1, h2, _, h4⟩ := h
  refine ⟨g, h1, h2, ?_⟩
  rw [cell_of_row W g _ _ _ _ h4]
  simp

/-- What the first loop has made. -/
structure InsK (w : World) (e : List Fx) (vi : Value) (W : World) : Prop where
  row : RowX w.heap.size W vi e
  each : ∀ x ∈ e, RoomK w.heap.size W x
  bel : Below w.heap.size w W

theorem InsK.on {w W W' : World} {e : List Fx} {vi : Value} (h : InsK w e vi W) (hb : Below W.heap.size W W') : InsK w e vi W' :=
  ⟨own_on h.row hb, fun x hx => (h.each x hx).on hb, h.bel.trans (hb.mono h.bel.size)⟩

theorem InsK.is {w W : World} {e : List Fx} {vi : Value} (h : InsK w e vi W) : IsXs W vi e := h.row.is fun x hx => (h.each x hx).at

theorem room_cellsK (ts : List ByteArray) : ((splice (List.replicate (ts.length + 1) (Value.string ⟨#[]⟩)) 0 (ts.map Value.string)).toArray.setIfInBounds ts.length (.string markK)) = (ts.map Value.string ++ [Value.string markK]).toArray := by
  apply Array.toList_inj.1
  rw [Array.toList_setIfInBounds]
  simp only [splice, List.take_zero, List.nil_append, List.length_map, Nat.zero_add, List.drop_replicate]
  rw [show ts.length + 1 - ts.length = 1 by omega, List.set_append_right _ _ (by simp)]
  simp

theorem made_strsK (n : Nat) : madeCells (Value.string ⟨#[]⟩).cells ((n + 1) * 1) = (List.replicate (n + 1) (Value.string ⟨#[]⟩)).toArray := by
  apply Array.toList_inj.1
  apply List.ext_getElem
  · simp [madeCells]
  · intro i h1 h2
    simp [madeCells, Value.cells]
    rw [Nat.mod_one]
    rfl

theorem strs_sizeK : (Try.prog.info? 9).map (·.size) = some 1 := by kernel_rfl

theorem splice_atK (ts : List ByteArray) : (splice (List.replicate (ts.length + 1) (Value.string ⟨#[]⟩)) 0 (ts.map Value.string))[ts.length]? = some (.string ⟨#[]⟩) := by
  simp [splice]

theorem new_oneK {T : TypeId} (w : World) (u : Value) : ∀ m x, ([u] : List Value)[m]? = some x → (w.alloc (.cells #[u] T)).cell? ((⟨w.heap.size, 0, none⟩ : Addr).add m) = some x := by
  intro m x hm
  match m, hm with
  | 0, hm => simp at hm; subst hm; simp [Addr.add]

theorem txt_oneK (t : ByteArray) : ∀ u ∈ ([.string t] : List Value), u.oneCell' = true := by
  intro u hu; simp at hu; subst hu; rfl

theorem copy_roomK (W : World) (g n xc : Nat) (xp : Option Addr) (L0 T1 : List Value) (hT : T1.length = n) (hL : L0.length = n + 1) (hg : W.heap[g]? = some (.cells L0.toArray 9 (0, 0)))
    (hsrc : 0 < T1.length → ∃ ad, xp = some ad ∧ ∀ j u, T1[j]? = some u → W.cell? (ad.add j) = some u) (h1 : ∀ u ∈ T1, u.oneCell' = true) :
    ∃ w3, (∀ ty, (Builtin.copy_ #[35, 35] ty #[.slice (some ⟨g, 0, none⟩) n (n + 1), .slice xp n xc]).run Try.prog W = .ok (goInt n) w3) ∧ w3.heap[g]? = some (.cells (splice L0 0 T1).toArray 9 (0, 0)) ∧ W.grownBy w3 (some g) := by
  subst hT
  by_cases h0 : T1.length = 0
  · obtain rfl := List.length_eq_zero_iff.1 h0
    refine ⟨W, fun ty => run_copy_none (P := Try.prog) W _ _ ty 9 _ _ 0 _ 0 _ Try.underlying35 strs_sizeK rfl, ?_, grownBy_refl _ _⟩
    rw [hg]
    simp [splice]
  · obtain ⟨ad, rfl, hs⟩ := hsrc (by omega)
    refine ⟨_, fun ty => run_copy_row (P := Try.prog) W _ _ ty 9 g 0 T1.length (T1.length + 1) ad T1.length xc L0.toArray 9 T1 Try.underlying35 strs_sizeK hg (by simp) hs (by simp; omega) h1, ?_, ?_⟩
    · rw [setRow_heap W g _ _ _ _ hg]
      simp [splice]
    · exact ⟨rfl, rfl, rfl, by simp [World.setRow], fun k _ hne => setRow_other W g k _ (fun e => hne (by rw [e]))⟩

theorem room_newK {w3 : World} {N S : Nat} {nm : ByteArray} {xt : List ByteArray} (hN : N ≤ S + 1) (h : w3.heap[S + 1]? = some (.cells (splice (List.replicate (xt.length + 1) (Value.string ⟨#[]⟩)) 0 (xt.map Value.string)).toArray 9 (0, 0))) :
    RoomK N (w3.setCell ⟨S + 1, xt.length, none⟩ (.string markK)) ⟨nm, some ⟨S + 1, 0, none⟩, xt.length + 1, xt⟩ := by
  refine ⟨S + 1, rfl, rfl, hN, ?_⟩
  rw [heap_setCell_same w3 (S + 1) xt.length _ _ _ h, room_cellsK]

/-- As InsK, and what lay in wc is there. -/
structure InsC (w wc : World) (e : List Fx) (vi : Value) (W : World) : Prop where
  row : RowX wc.heap.size W vi e
  each : ∀ x ∈ e, RoomK wc.heap.size W x
  belc : Below wc.heap.size wc W
  old : Below w.heap.size w wc

theorem InsC.on {w wc W W' : World} {e : List Fx} {vi : Value} (h : InsC w wc e vi W) (hb : Below W.heap.size W W') : InsC w wc e vi W' :=
  ⟨own_on h.row hb, fun x hx => (h.each x hx).on hb, h.belc.trans (hb.mono h.belc.size), h.old⟩
theorem InsC.is {w wc W : World} {e : List Fx} {vi : Value} (h : InsC w wc e vi W) : IsXs W vi e := h.row.is fun x hx => (h.each x hx).at
theorem InsC.bel {w wc W : World} {e : List Fx} {vi : Value} (h : InsC w wc e vi W) : Below w.heap.size w W := bel_then h.old h.old.size h.belc

theorem copy_same {d e : List Fx} (h : CopyX d) (he : e.map Fx.fld = d.map Fx.fld) : CopyX e := by
  have hl : e.length = d.length := by
    have := congrArg List.length he
    simpa using this
  refine ⟨by rw [hl]; exact h.1, fun x hx => ?_⟩
  have hm : x.fld ∈ d.map Fx.fld := by rw [← he]; exact List.mem_map.2 ⟨x, hx, rfl⟩
  obtain ⟨y, hy, e2⟩ := List.mem_map.1 hm
  have : x.txt = y.txt := by
    have := congrArg Prod.snd e2
    exact this.symm
  rw [this]
  exact h.2 y hy

theorem tot_txtsK (d : List Fx) : (txtsX d).length = totF (d.map Fx.fld) := by
  unfold txtsX totF
  rw [List.length_flatMap, List.map_map]
  rfl

theorem res_shape (bs : List Bd) (fs : List Fld) : resAns bs fs = [] ∨ ∃ g, resAns bs fs = mapT g fs := by
  unfold resAns
  split
  · exact Or.inr ⟨_, rfl⟩
  · exact Or.inl rfl
theorem ren_shape (a b : Ky) (fs : List Fld) : renAns a b fs = [] ∨ ∃ g, renAns a b fs = mapT g fs := by
  unfold renAns
  split
  · exact Or.inr ⟨_, rfl⟩
  · exact Or.inl rfl

theorem small_of {d o : List Fx} {G : List Fld} (hG : G = [] ∨ ∃ g, G = mapT g (d.map Fx.fld)) (ho : o.map Fx.fld = G) (hT : d.length + totF (d.map Fx.fld) ≤ 1048576) : o.length ≤ 1048576 ∧ ∀ x ∈ o, x.txt.length ≤ 1048576 := by
  rcases hG with rfl | ⟨g, rfl⟩
  · obtain rfl := List.map_eq_nil_iff.1 ho
    exact ⟨Nat.zero_le _, fun x hx => by cases hx⟩
  · have hl : o.length = d.length := by
      have := congrArg List.length ho
      simpa [mapT] using this
    refine ⟨by omega, fun x hx => ?_⟩
    have hm : x.fld ∈ mapT g (d.map Fx.fld) := by rw [← ho]; exact List.mem_map.2 ⟨x, hx, rfl⟩
    obtain ⟨f, hf, he⟩ := List.mem_map.1 hm
    have h2 : x.txt = f.2.map g := by
      have := congrArg Prod.snd he
      exact this.symm
    have := totF_mem hf
    rw [h2, List.length_map]
    omega

/-- The first value has been written over, or both. -/
def StK (A B C : Nat) (we : World) (q : Nat) (W : World) : Prop := (q = 0 → W = we) ∧ (q = 1 → KeptZ A B we.heap.size we W) ∧ (q = 2 → KeptZ A C we.heap.size we W)

theorem keptZ_refl (A B : Nat) (w : World) : KeptZ A B w.heap.size w w := ⟨rfl, rfl, rfl, Nat.le_refl _, fun _ _ _ => rfl⟩

theorem StK.block {A B C : Nat} {we W : World} {q : Nat} (h : StK A B C we q W) (hq : q ≤ 2) (hbc : B ≤ C) {k : Nat} (h1 : C ≤ k) (h2 : k < we.heap.size) : W.heap[k]? = we.heap[k]? := by
  obtain ⟨a, b, c⟩ := h
  have : q = 0 ∨ q = 1 ∨ q = 2 := by omega
  rcases this with e | e | e
  · rw [a e]
  · exact (b e).block k h2 (Or.inr (by omega))
  · exact (c e).block k h2 (Or.inr h1)

theorem stepK {A B C : Nat} {we W : World} {pa pb : Option Addr} {ca cb : Nat} {oa ob : List Fx} (hab : A ≤ B) (hbc : B ≤ C) (hce : C ≤ we.heap.size) (ha : OwnJ A we (.slice pa oa.length ca) oa) (hb : OwnJ B we (.slice pb ob.length cb) ob)
    (za : (∀ k, (Value.slice pa oa.length ca).ownBlock = some k → k < B) ∧ ∀ x ∈ oa, ∀ k, x.sl.ownBlock = some k → k < B) (zb : (∀ k, (Value.slice pb ob.length cb).ownBlock = some k → k < C) ∧ ∀ x ∈ ob, ∀ k, x.sl.ownBlock = some k → k < C)
    {q : Nat} (hq : q < 2) (h : StK A B C we q W) :
    ∃ (A' B' : Nat) (w' : World) (p : Option Addr) (c : Nat) (o : List Fx), ((q = 0 ∧ p = pa ∧ c = ca ∧ o = oa) ∨ (q = 1 ∧ p = pb ∧ c = cb ∧ o = ob)) ∧ A' ≤ B' ∧ B' ≤ w'.heap.size ∧ XSt A' B' w'.heap.size w' (.slice p o.length c) o W ∧
      ∀ o' W', XSt A' B' w'.heap.size w' (.slice p o.length c) o' W' → StK A B C we (q + 1) W' := by
  have : q = 0 ∨ q = 1 := by omega
  rcases this with rfl | rfl
  · obtain rfl := h.1 rfl
    refine ⟨A, B, W, pa, ca, oa, Or.inl ⟨rfl, rfl, rfl, rfl⟩, hab, by omega, ⟨ha, fun k hk => Or.inl (za.1 k hk), fun x hx k hk => Or.inl (za.2 x hx k hk), keptZ_refl _ _ _⟩, fun o' W' hx => ⟨fun e => by omega, fun _ => hx.kept, fun e => by omega⟩⟩
  · have hk := h.2.1 rfl
    have hs := hk.size
    have hb' : OwnJ B W (.slice pb ob.length cb) ob := by
      refine ⟨⟨own_same hb.1.1 fun k e => ?_, fun x hx => own_same (hb.1.2 x hx) fun k e => ?_⟩, hb.2⟩
      · have := World.ownsRow.lt hb.1.1 k e
        exact hk.block k this.2 (Or.inr this.1)
      · have := World.ownsRow.lt (hb.1.2 x hx) k e
        exact hk.block k this.2 (Or.inr this.1)
    refine ⟨B, C, W, pb, cb, ob, Or.inr ⟨rfl, rfl, rfl, rfl⟩, hbc, by omega, ⟨hb', fun k e => Or.inl (zb.1 k e), fun x hx k e => Or.inl (zb.2 x hx k e), keptZ_refl _ _ _⟩, fun o' W' hx => ⟨fun e => by omega, fun e => by omega, fun _ => ?_⟩⟩
    have h2 := hx.kept
    refine ⟨h2.os.trans hk.os, h2.tape.trans hk.tape, h2.output.trans hk.output, Nat.le_trans hs h2.size, fun k hk1 hk2 => ?_⟩
    exact (h2.block k (by omega) (by omega)).trans (hk.block k hk1 (by omega))

end Go.Proofs.Ytinmagodckkedaa

/-
  The walk of RefsKeeps.
-/
namespace Go.Proofs.Ytinmagodckkedaa
open Go.RowKit Go.Lib

set_option maxHeartbeats 16000000 in
set_option maxRecDepth 100000 in
theorem refskeeps_any (v vb : Value) (d : List Fx) (bs : List Bd) (a1 a2 b1 b2 : ByteArray) (w : World) (hv : IsXs w v d) (hvb : KB.Is w vb bs) (hf : FitX d) (hc : CopyX d) (hT : d.length + totF (d.map Fx.fld) ≤ 1048576) (hfb : FitBd bs)
    (ha1 : a1.size ≤ maxLen) (ha2 : a2.size ≤ maxLen) (hb1 : b1.size ≤ maxLen) (hb2 : b2.size ≤ maxLen) :
    Calls Try.prog 7 #[v, vb, .agg #[.string a1, .string a2, .string b1, .string b2]] w fun e w' => e = .returned (.bool true) ∧ Below w.heap.size w w' := by
  obtain ⟨j0, hj0, hy0, hy1, hy2⟩ := info_parts Try.infoFld
  obtain ⟨i0, hi0, hz0, hz1, hz2⟩ := info_parts Try.infoStr
  have HJ := hid hj0
  have HI := hid hi0
  have HMK : Hid (∀ (n : Nat), n ≤ 2000000 → ∀ W : World, (Instr.makeSlice 35 (.int .i64 (n : Int)) (.int .i64 ((n : Int) + 1))).run Try.prog W = .ok (.slice (some ⟨W.heap.size, 0, none⟩) n (n + 1)) (W.alloc (.cells (List.replicate (n + 1) (Value.string ⟨#[]⟩)).toArray 9))) := fun n hn W => by
    have := run_make (P := Try.prog) W 35 9 i0 (.string ⟨#[]⟩) Try.underlying35 hi0 hz0 .i64 .i64 (n : Int) ((n : Int) + 1) (by omega) (by omega) (by rw [hz2]; omega) (by omega)
    rw [this, hz1, show ((n : Int) + 1).toNat = n + 1 by omega, made_strsK, Int.toNat_natCast]
  have HV := hid hv
  have HVB := hid hvb
  have HF := hid hf
  have HCP := hid hc
  have HFB := hid hfb
  have HTOT := hid hT
  have HKS : Hid ((a1.size ≤ maxLen ∧ a2.size ≤ maxLen) ∧ b1.size ≤ maxLen ∧ b2.size ≤ maxLen) := ⟨⟨ha1, ha2⟩, hb1, hb2⟩
  obtain ⟨pv, cv, rfl, hdv, htv⟩ := HV.out
  have HDV := hid hdv
  have HTV := hid htv
  have hl : d.length ≤ 2000000 := by omega
  clear hj0 hi0 hv hvb hf hc hfb hT ha1 ha2 hb1 hb2 hdv htv
  go_enter Try.func7, Try.ntmps7
  have HBX : Hid (Below w.heap.size w (w.alloc (.cells #[.string a1, .string a2, .string b1, .string b2] 45))) := (Below.refl _ _).alloc (Nat.le_refl _) _
  have HBC : Hid (∀ W, Below (w.alloc (.cells #[.string a1, .string a2, .string b1, .string b2] 45)).heap.size (w.alloc (.cells #[.string a1, .string a2, .string b1, .string b2] 45)) W → W.cell? ⟨w.heap.size, 0, none⟩ = some (.string a1) ∧ W.cell? ⟨w.heap.size, 1, none⟩ = some (.string a2) ∧ W.cell? ⟨w.heap.size, 2, none⟩ = some (.string b1) ∧ W.cell? ⟨w.heap.size, 3, none⟩ = some (.string b2)) := fun W hW => by
    have hlt : w.heap.size < (w.alloc (.cells #[.string a1, .string a2, .string b1, .string b2] 45)).heap.size := by simp
    refine ⟨(hW.cell (p := ⟨w.heap.size, 0, none⟩) hlt).trans ?_, (hW.cell (p := ⟨w.heap.size, 1, none⟩) hlt).trans ?_, (hW.cell (p := ⟨w.heap.size, 2, none⟩) hlt).trans ?_, (hW.cell (p := ⟨w.heap.size, 3, none⟩) hlt).trans ?_⟩ <;> simp [go_sem]
  go_wp2_with fail
  refine (rfixed_any _).mono ?_
  rintro e w1 ⟨rfl, hq1⟩
  obtain ⟨x0, x1, x2, x3⟩ := HBC.out w1 hq1
  have HB1 := hid (bel_then HBX.out HBX.out.size hq1)
  have HLT : Hid (w.heap.size < w1.heap.size) := by have := hq1.size; rw [World.size_alloc] at this; exact this
  clear hq1 HBX HBC
  go_upto_region 3 with fail
  go_cut [7, 8] from 29 (fun p7 p8 wx => ∃ x y, p7 = .pointer (some ⟨x, 0, none⟩) ∧ p8 = .pointer (some ⟨y, 0, none⟩) ∧ Hid ((wx.cell? ⟨x, 0, none⟩ = some (.string a1) ∧ wx.cell? ⟨x, 1, none⟩ = some (.string a2)) ∧ (wx.cell? ⟨y, 0, none⟩ = some (.string b1) ∧ wx.cell? ⟨y, 1, none⟩ = some (.string b2))) ∧ Hid (Below w.heap.size w wx))
  case first =>
    have hlt1 : w.heap.size < w1.heap.size := HLT.out
    have hn1 : ¬ w.heap.size = w1.heap.size := by omega
    have hn2 : ¬ w.heap.size = w1.heap.size + 1 := by omega
    have hn3 : ¬ w1.heap.size = w.heap.size := by omega
    have hn4 : ¬ w1.heap.size + 1 = w.heap.size := by omega
    go_region_held3 (fun w' => w'.cell? ⟨w.heap.size, 0, none⟩ = some (.string a1) ∧ w'.cell? ⟨w.heap.size, 1, none⟩ = some (.string a2) ∧ w'.cell? ⟨w.heap.size, 2, none⟩ = some (.string b1) ∧ w'.cell? ⟨w.heap.size, 3, none⟩ = some (.string b2)) (go_keep) (fail)
    all_goals
      go_wp2_with fail
      go_meet
      case rel =>
        refine ⟨_, _, rfl, rfl, ?_, ?_⟩
        · show (_ ∧ _) ∧ _ ∧ _
          simp [go_sem]
        · exact ((HB1.out.alloc HB1.out.size _).alloc (by rw [World.size_alloc]; omega) _).drew
  case rest =>
  obtain ⟨xa, xb, rfl, rfl, HXY, HBC⟩ := hcut
  clear x0 x1 x2 x3 HLT HB1
  have hxl : xa < wc.heap.size ∧ xb < wc.heap.size := ⟨cell_block HXY.out.1.1, cell_block HXY.out.2.1⟩
  have HXK : Hid (∀ W, Below wc.heap.size wc W → (W.cell? ⟨xa, 0, none⟩ = some (.string a1) ∧ W.cell? ⟨xa, 1, none⟩ = some (.string a2)) ∧ (W.cell? ⟨xb, 0, none⟩ = some (.string b1) ∧ W.cell? ⟨xb, 1, none⟩ = some (.string b2))) := fun W hW =>
    ⟨⟨(hW.cell (p := ⟨xa, 0, none⟩) hxl.1).trans HXY.out.1.1, (hW.cell (p := ⟨xa, 1, none⟩) hxl.1).trans HXY.out.1.2⟩, (hW.cell (p := ⟨xb, 0, none⟩) hxl.2).trans HXY.out.2.1, (hW.cell (p := ⟨xb, 1, none⟩) hxl.2).trans HXY.out.2.2⟩
  obtain ⟨Wc, hWc⟩ : ∃ Wc, wc = Wc := ⟨_, rfl⟩
  rw [hWc] at HXK HBC ⊢
  have hwWc := HBC.out.size
  clear HXY hxl hWc
  go_wp2_with fail
  go_loopg [9, 35] d.length (fun g vi vk ws => ∃ (i : Nat) (e : List Fx), vk = .int .i64 i ∧ i ≤ d.length ∧ d.length - i ≤ g ∧ Hid (e.length = i) ∧ Hid (e.map Fx.fld = (d.map Fx.fld).take i) ∧ Hid (InsC w Wc e vi ws))
  case atStart => exact ⟨0, [], rfl, by omega, by omega, rfl, (show Hid _ from by simp [Hid]), World.ownsRow_nil _ _ _ _, fun x hx => by simp at hx, Below.refl _ _, HBC.out⟩
  case round =>
  obtain ⟨i, e, rfl, hi, hgk, HEL, HEM, HIN⟩ := hrel
  by_cases hlt : i < d.length
  · have hltz : (i : Int) < (d.length : Int) := by omega
    have hiz : (0 : Int) ≤ (i : Int) := by omega
    obtain ⟨b, off, rfl, hxs⟩ : ∃ b off, pv = some ⟨b, off, none⟩ ∧ XsAt w b off d := by
      rcases HDV.out with h | h
      · subst h; simp at hlt
      · exact h
    obtain ⟨c0, c1⟩ := hxs.kept HIN.out.bel i hlt
    unfold Fx.sl at c1
    have hxt := HTV.out _ (List.getElem_mem hlt)
    have hem : (d.map Fx.fld).take (i + 1) = (d.map Fx.fld).take i ++ [(d[i]).fld] := by
      rw [List.take_succ_eq_append_getElem (by simpa using hlt)]; simp
    have hxl : (d[i]).txt.length ≤ 2000000 := by
      have h1 := totF_mem (List.mem_map.2 ⟨_, List.getElem_mem hlt, rfl⟩ : (d[i]).fld ∈ d.map Fx.fld)
      have h2 := HTOT.out
      have e : (d[i]).fld.2.length = (d[i]).txt.length := rfl
      omega
    obtain ⟨x, hx⟩ : ∃ x, d[i] = x := ⟨_, rfl⟩
    rw [hx] at c0 c1 hxt hem hxl
    obtain ⟨nm, xp, xc, xt⟩ := x
    simp only at c0 c1 hxl
    have hxt2 : TxtAt w xp xt := hxt
    have HXT := hid hxt2
    have HM1 := hid hem
    have hmk := HMK.out xt.length hxl
    obtain ⟨L0, hL0⟩ : ∃ L0, List.replicate (xt.length + 1) (Value.string ⟨#[]⟩) = L0 := ⟨_, rfl⟩
    rw [hL0] at hmk
    obtain ⟨T1, hT1⟩ : ∃ T1, xt.map Value.string = T1 := ⟨_, rfl⟩
    have HL0 := hid hL0
    have HT1 := hid hT1
    have hT1l : T1.length = xt.length := by rw [← hT1]; simp
    have HTL := hid hT1l
    have hL0l : L0.length = xt.length + 1 := by rw [← hL0]; simp
    have HLL := hid hL0l
    have HT1O : Hid (∀ u ∈ T1, u.oneCell' = true) := by show ∀ u ∈ T1, _; rw [← hT1]; exact txts_one _
    obtain ⟨S, hS⟩ : ∃ S, wr.heap.size = S := ⟨_, rfl⟩
    have HS := hid hS
    have hwS := HIN.out.belc.size
    rw [hS] at hwS
    have HSRC : Hid (∀ W, Below w.heap.size w W → 0 < T1.length → ∃ ad, xp = some ad ∧ ∀ j u, T1[j]? = some u → W.cell? (ad.add j) = some u) := fun W hW hpos => by
      rcases src_ts (HXT.out.kept hW) with h | h
      · omega
      · rw [← hT1]; exact h
    clear hxs hxt hxt2 hx hem hL0 hT1 hT1l hL0l
    obtain ⟨W2, hW2⟩ : ∃ W2, (wr.alloc (.cells #[.string nm, .slice xp xt.length xc] 38)).alloc (.cells L0.toArray 9) = W2 := ⟨_, rfl⟩
    have hbw2 : Below wr.heap.size wr W2 := by rw [← hW2]; exact ((Below.refl _ _).alloc (Nat.le_refl _) _).alloc (by simp) _
    obtain ⟨w3, hcp, h3, hg3⟩ := copy_roomK W2 (S + 1) xt.length xc xp L0 T1 HTL.out HLL.out (by rw [← hW2, ← hS]; have := heap_alloc_new (wr.alloc (.cells #[.string nm, .slice xp xt.length xc] 38)) (.cells L0.toArray 9); rw [World.size_alloc] at this; exact this) (HSRC.out W2 (bel_then HIN.out.bel HIN.out.bel.size hbw2)) HT1O.out
    rw [← HL0.out, ← HT1.out] at h3
    have hbox2 : W2.heap[S]? = some (.cells #[.string nm, .slice xp xt.length xc] 38 (0, 0)) := by
      rw [← hW2, ← hS]
      exact (Below.heap_alloc _ _ _ (by simp)).trans (heap_alloc_new wr _)
    obtain ⟨k20, k21, _, _⟩ := box_facts hbox2
    have hw2S : W2.heap.size = S + 2 := by rw [← hW2]; simp [hS]
    have hbox3 : w3.heap[S]? = some (.cells #[.string nm, .slice xp xt.length xc] 38 (0, 0)) := (hg3.block S (by omega) (by simp)).trans hbox2
    have cm : w3.cell? ⟨S + 1, xt.length, none⟩ = some (.string ⟨#[]⟩) := by
      rw [cell_of_row w3 (S + 1) _ _ _ _ h3, ← splice_atK xt]
      simp
    have fm : w3.frozen? ⟨S + 1, xt.length, none⟩ = false := Lib.frozen_of_heap h3 _
    have hbw3 : Below wr.heap.size wr w3 := hbw2.grown hg3 (by omega) (fun k hk => by cases hk; omega)
    have hsz3 := hg3.size
    have H3 := hid h3
    have HBX3 := hid hbox3
    have HBW3 := hid hbw3
    have n1 : (0 : Int) ≤ (xt.length : Int) + 1 := by omega
    have n2 : (xt.length : Int) < (xt.length : Int) + 1 := by omega
    clear h3 hbox3 hbox2 hbw3 hg3 hbw2 hw2S
    go_upto_region 11 with fail
    clear k20 k21 cm fm hcp hmk c0 c1
    obtain ⟨W4, hW4⟩ : ∃ W4, w3.setCell ⟨S + 1, xt.length, none⟩ (.string ⟨#[109, 97, 114, 107]⟩) = W4 := ⟨_, rfl⟩
    rw [hW4]
    have hsz4 : w3.heap.size ≤ W4.heap.size := by rw [← hW4]; simp [World.setCell]
    have hw2s : S + 2 ≤ W2.heap.size := by rw [← hW2]; simp; omega
    have hb4 : Below wr.heap.size wr W4 := by rw [← hW4]; exact HBW3.out.setCell (p := ⟨S + 1, xt.length, none⟩) (by show _ ≤ S + 1; omega) _
    have hr4 : RoomK Wc.heap.size W4 ⟨nm, some ⟨S + 1, 0, none⟩, xt.length + 1, xt⟩ := by rw [← hW4]; exact room_newK (by omega) H3.out
    have hbx4 : W4.heap[S]? = some (.cells #[.string nm, .slice xp xt.length xc] 38 (0, 0)) := by
      rw [← hW4]
      exact (Below.heap_setCell w3 _ _ S (by show S ≠ S + 1; omega)).trans HBX3.out
    obtain ⟨k40, k41, _, _⟩ := box_facts hbx4
    have HIN4 := hid (HIN.out.on hb4)
    have HR4 := hid hr4
    have hel : e.length ≤ 2000000 := by have := HEL.out; omega
    obtain ⟨W7, hW7⟩ : ∃ W7, W4.alloc (.cells #[.string nm, .slice (some ⟨S + 1, 0, none⟩) xt.length (xt.length + 1)] 38) = W7 := ⟨_, rfl⟩
    have hb47 : Below W4.heap.size W4 W7 := by rw [← hW7]; exact (Below.refl _ _).alloc (Nat.le_refl _) _
    have HIN7 := hid (HIN4.out.on hb47)
    have HR7 := hid (HR4.out.on hb47)
    have HC7 := hid (news_x W4 ⟨nm, some ⟨S + 1, 0, none⟩, xt.length + 1, xt⟩)
    simp only at HC7
    rw [hW7] at HC7
    have hw7 := HIN7.out.belc.size
    clear hW4 hb4 hr4 hbx4 hb47 hW2 H3 HBX3 HBW3
    go_wp2_with (first | (at_builtin; refine wpList_append_own _ rfl _ _ 22 rfl Wc.heap.size 38 j0 (.agg #[.string ⟨#[]⟩, .slice none 0 0]) 2 40 Try.underlying22 HJ.out hy0 hy1 hy2 rfl (by decide) _ _ _ rfl HIN7.out.row ⟨W4.heap.size, 0, none⟩ 1 1 (cellsX [⟨nm, some ⟨S + 1, 0, none⟩, xt.length + 1, xt⟩]) rfl rfl HC7.out (cellsX_one _) (by unfold maxLen; omega) (by omega) hw7 ?_))
    intro v8 w8 hown8 hg8 _
    have HIN8 : Hid (InsC w Wc (e ++ [⟨nm, some ⟨S + 1, 0, none⟩, xt.length + 1, xt⟩]) v8 w8) := by
      refine ⟨?_, fun x hx => ?_, HIN7.out.belc.grown hg8 hw7 (fun k hk => (World.ownsRow.lt HIN7.out.row k hk).1), HIN7.out.old⟩
      · unfold RowX; rw [cellsX_append, List.length_append]; exact hown8
      · rw [List.mem_append, List.mem_singleton] at hx
        rcases hx with hx | rfl
        · exact (HIN7.out.each x hx).else HIN7.out.row (by decide) hg8
        · exact HR7.out.else HIN7.out.row (by decide) hg8
    have HEL8 : Hid ((e ++ [(⟨nm, some ⟨S + 1, 0, none⟩, xt.length + 1, xt⟩ : Fx)]).length = i + 1) := by show _ = _; rw [List.length_append, HEL.out]; rfl
    have HEM8 : Hid ((e ++ [(⟨nm, some ⟨S + 1, 0, none⟩, xt.length + 1, xt⟩ : Fx)]).map Fx.fld = (d.map Fx.fld).take (i + 1)) := by show _ = _; rw [List.map_append, HEM.out, HM1.out]; rfl
    clear hown8 hg8 k40 k41
    go_wp2_with fail
    go_roundg (d.length - (i + 1))
    case measure => omega
    case rel => exact ⟨i + 1, _, by go_num, by omega, by omega, HEL8, HEM8, HIN8⟩
  have hltz : ¬ (i : Int) < (d.length : Int) := by omega
  have hfe : e.map Fx.fld = d.map Fx.fld := by
    have h1 := HEM.out
    rwa [List.take_of_length_le (by rw [List.length_map]; omega)] at h1
  have HFE := hid hfe
  clear HEM
  obtain ⟨pi, ci, hvi, _, _⟩ := HIN.out.is
  subst hvi
  have hel : e.length ≤ 2000000 := by have := HEL.out; omega
  have hfx : FitX e := ⟨by unfold maxLen; omega, fun x hx => by
    have : x.fld ∈ d.map Fx.fld := by rw [← HFE.out]; exact List.mem_map.2 ⟨x, hx, rfl⟩
    obtain ⟨y, hy, ey⟩ := List.mem_map.1 this
    rw [← ey]; exact HF.out.2 y hy⟩
  have HFX := hid hfx
  have HCE := hid (copy_same HCP.out hfe)
  have HTD : Hid ((txtsX d).length ≤ 2000000) := by show _ ≤ _; rw [tot_txtsK]; have := HTOT.out; omega
  have HTE : Hid ((txtsX e).length ≤ 2000000) := by show _ ≤ _; rw [← txtsX_flds, hfe, txtsX_flds]; exact HTD.out
  have HRA : Hid (∀ W, Below wr.heap.size wr W → Calls Try.prog 9 #[.slice pi e.length ci, vb] W fun q w' => AnsJ W (resAns bs (d.map Fx.fld)) (rsCode bs (d.map Fx.fld)) q w') := fun W hW => by
    have := resolve_any (.slice pi e.length ci) vb e bs W (HIN.out.on hW).is (Kind.is_kept HVB.out (bel_then HIN.out.bel HIN.out.bel.size hW)) HFX.out HCE.out HTE.out HFB.out
    rw [HFE.out] at this
    exact this
  have HRN : Hid (∀ W, Below wr.heap.size wr W → Calls Try.prog 12 #[.slice pi e.length ci, .agg #[.string a1, .string a2], .agg #[.string b1, .string b2]] W fun q w' => AnsJ W (renAns (a1, a2) (b1, b2) (d.map Fx.fld)) (renCode (a1, a2) (b1, b2)) q w') := fun W hW => by
    have := rename_any (.slice pi e.length ci) e (a1, a2) (b1, b2) W (HIN.out.on hW).is HFX.out HCE.out HKS.out.1.1 HKS.out.1.2 HKS.out.2.1 HKS.out.2.2
    rw [HFE.out] at this
    exact this
  have HRR : Hid (∀ W, Below w.heap.size w W → Calls Try.prog 10 #[.slice pv d.length cv, vb] W fun q w' => AnsJ W (resAns bs (d.map Fx.fld)) (rsCode bs (d.map Fx.fld)) q w') := fun W hW => rresolve_any _ vb d bs W (HV.out.kept hW) (Kind.is_kept HVB.out hW) HF.out HCP.out HFB.out
  have HSA : Hid (∀ o : List Fx, o.map Fx.fld = resAns bs (d.map Fx.fld) → (o.length ≤ 1048576 ∧ ∀ x ∈ o, x.txt.length ≤ 1048576) ∧ FitX o) := fun o ho => ⟨small_of (res_shape bs (d.map Fx.fld)) ho HTOT.out, fit_res HF.out ho⟩
  have HSB : Hid (∀ o : List Fx, o.map Fx.fld = renAns (a1, a2) (b1, b2) (d.map Fx.fld) → o.length ≤ 1048576 ∧ ∀ x ∈ o, x.txt.length ≤ 1048576) := fun o ho => small_of (ren_shape _ _ (d.map Fx.fld)) ho HTOT.out
  obtain ⟨C0, hC0⟩ : ∃ C0, rsCode bs (d.map Fx.fld) = C0 := ⟨_, rfl⟩
  obtain ⟨R0, hR0⟩ : ∃ R0, renCode (a1, a2) (b1, b2) = R0 := ⟨_, rfl⟩
  obtain ⟨FA, hFA⟩ : ∃ FA, resAns bs (d.map Fx.fld) = FA := ⟨_, rfl⟩
  obtain ⟨FB, hFB⟩ : ∃ FB, renAns (a1, a2) (b1, b2) (d.map Fx.fld) = FB := ⟨_, rfl⟩
  rw [hC0, hFA] at HRA HRR
  rw [hR0, hFB] at HRN
  rw [hFA] at HSA
  rw [hFB] at HSB
  have hcc := int_differ C0
  clear hfe hfx hC0 hR0 hFA hFB HMK HJ hy0 hy1 hy2 HTD HTE HCE HVB HFB HKS
  go_wp2_with fail
  refine (HRA.out wr (Below.refl _ _)).mono ?_
  rintro q wa ⟨ua, oa, rfl, oA, mA, qA⟩
  obtain ⟨pa, ca, hua⟩ := own_len oA.1
  subst hua
  have OA := hid oA
  have MA := hid mA
  have QA := hid qA
  obtain ⟨⟨x0, x1⟩, y0, y1⟩ := HXK.out wa (bel_then HIN.out.belc HIN.out.belc.size qA)
  clear oA mA qA
  go_wp2_with fail
  clear x0 x1 y0 y1
  refine (HRN.out wa QA.out).mono ?_
  rintro q wb ⟨ub, ob, rfl, oB, mB, qB⟩
  obtain ⟨pb, cb, hub⟩ := own_len oB.1
  subst hub
  have OB := hid oB
  have MB := hid mB
  have QB := hid qB
  have BB := hid (bel_then QA.out QA.out.size qB)
  clear oB mB qB HRN
  go_wp2_with fail
  refine (HRA.out wb BB.out).mono ?_
  rintro q wc3 ⟨uc, oc, rfl, oC, mC, qC⟩
  have OC := hid oC
  have MC := hid mC
  have QC := hid qC
  have BC := hid (bel_then BB.out BB.out.size qC)
  clear oC mC qC HRA
  go_wp2_with fail
  refine (HRR.out wc3 (bel_then HIN.out.bel HIN.out.bel.size BC.out)).mono ?_
  rintro q wd ⟨uw, ow, rfl, oW, mW, qW⟩
  have OW := hid oW
  have MW := hid mW
  have QW := hid qW
  have BD := hid (bel_then BC.out BC.out.size qW)
  clear oW mW qW HRR
  obtain ⟨A, hA⟩ : ∃ A, wr.heap.size = A := ⟨_, rfl⟩
  obtain ⟨B, hB⟩ : ∃ B, wa.heap.size = B := ⟨_, rfl⟩
  obtain ⟨C, hC⟩ : ∃ C, wb.heap.size = C := ⟨_, rfl⟩
  obtain ⟨D, hD⟩ : ∃ D, wd.heap.size = D := ⟨_, rfl⟩
  obtain ⟨we, hwe⟩ : ∃ we, wd.alloc (.cells #[.slice pa oa.length ca, .slice pb ob.length cb] 22) = we := ⟨_, rfl⟩
  have hde : Below wd.heap.size wd we := by rw [← hwe]; exact (Below.refl _ _).alloc (Nat.le_refl _) _
  have hce : Below wb.heap.size wb we := bel_then (bel_then QC.out QC.out.size QW.out) (bel_then QC.out QC.out.size QW.out).size hde
  have hbe : Below wa.heap.size wa we := bel_then QB.out QB.out.size hce
  have hae : Below A wr we := by rw [← hA]; exact bel_then QA.out QA.out.size hbe
  have hDE : we.heap[D]? = some (.cells #[.slice pa oa.length ca, .slice pb ob.length cb] 22 (0, 0)) := by rw [← hwe, ← hD]; exact heap_alloc_new wd _
  have hAB : A ≤ B := by rw [← hA, ← hB]; exact QA.out.size
  have hBC : B ≤ C := by rw [← hB, ← hC]; exact QB.out.size
  have hCD : C ≤ D := by rw [← hC, ← hD]; exact Nat.le_trans QC.out.size QW.out.size
  have hDw : D < we.heap.size := (Array.getElem?_eq_some_iff.1 hDE).1
  have hSTP := fun (r : Nat) (W : World) (hr : r < 2) (h : StK A B C we r W) => stepK (pa := pa) (pb := pb) (ca := ca) (cb := cb) (oa := oa) (ob := ob) hAB hBC (by omega) (by rw [← hA]; exact OA.out.on hbe) (by rw [← hB]; exact OB.out.on hce)
    (by rw [← hB]; exact ⟨fun k hk => (World.ownsRow.lt OA.out.1.1 k hk).2, fun x hx k hk => (World.ownsRow.lt (OA.out.1.2 x hx) k hk).2⟩)
    (by rw [← hC]; exact ⟨fun k hk => (World.ownsRow.lt OB.out.1.1 k hk).2, fun x hx k hk => (World.ownsRow.lt (OB.out.1.2 x hx) k hk).2⟩) hr h
  have HSTP := hid hSTP
  have HDE := hid hDE
  have HORD : Hid ((A ≤ B ∧ B ≤ C) ∧ C ≤ D ∧ D < we.heap.size) := ⟨⟨hAB, hBC⟩, hCD, hDw⟩
  have HAE := hid hae
  have HCW : Hid (OwnXs C we uc oc ∧ OwnXs C we uw ow) := by
    have h1 := OC.out.1.on (bel_then QW.out QW.out.size hde)
    have h2 := OW.out.1.on hde
    refine ⟨by rw [← hC]; exact h1, own_weak h2.1 ?_, fun x hx => own_weak (h2.2 x hx) ?_⟩ <;> (rw [← hC]; exact QC.out.size)
  have HON : Hid (∀ W, Below A wr W → InsC w Wc e (.slice pi e.length ci) W) := fun W h => HIN.out.on (by rw [hA]; exact h)
  have HZA := hid (HSA.out oa MA.out).1
  have HZB := hid (HSB.out ob MB.out)
  have HSTT : Hid (StK A B C we 0 we) := ⟨fun _ => rfl, fun h => by omega, fun h => by omega⟩
  clear hde hce hbe hae hDE hAB hBC hCD hDw hSTP hA hB hC OA OB OC OW QA QB QC QW BB BC BD
  go_wp2_with fail
  try rw [hwe]
  try rw [hD]
  clear hwe hD
  go_loopg [104] 2 (fun g vi ws => ∃ r : Nat, vi = .int .i64 r ∧ r ≤ 2 ∧ 2 - r ≤ g ∧ Hid (StK A B C we r ws))
  case atStart => exact ⟨0, rfl, by omega, by omega, HSTT⟩
  case round =>
  clear HSTT
  obtain ⟨r, rfl, hr, hgr, HST⟩ := hrel
  by_cases hr2 : r < 2
  · have hr2z : (r : Int) < 2 := by omega
    have hr0 : (0 : Int) ≤ (r : Int) := by omega
    have hdw := HST.out.block hr HORD.out.1.2 (k := D) HORD.out.2.1 HORD.out.2.2
    rw [HDE.out] at hdw
    obtain ⟨A', B', w', px, cx, ox, hwh, hAB1, hAB2, hx0, hfin⟩ := HSTP.out r wr hr2 HST.out
    have hcell : wr.cell? ⟨D, r, none⟩ = some (.slice px ox.length cx) := by
      rw [cell_of_row wr D r _ _ _ hdw]
      rcases hwh with ⟨rfl, rfl, rfl, rfl⟩ | ⟨rfl, rfl, rfl, rfl⟩ <;> rfl
    have hz : ox.length ≤ 1048576 ∧ ∀ x ∈ ox, x.txt.length ≤ 1048576 := by
      rcases hwh with ⟨_, _, _, rfl⟩ | ⟨_, _, _, rfl⟩
      · exact HZA.out
      · exact HZB.out
    have HOX : Hid (∀ k, (h : k < ox.length) → (ox[k]).txt.length ≤ 1048576) := fun k h => hz.2 _ (List.getElem_mem h)
    have hnx := hz.1
    have HX0 := hid hx0
    have HFIN := hid hfin
    have HAB : Hid (A' ≤ B' ∧ B' ≤ w'.heap.size) := ⟨hAB1, hAB2⟩
    clear hdw hwh hAB1 hAB2 hx0 hfin hz HST
    go_wp2_with fail
    clear hcell
    go_loopg [110] ox.length (fun g vi ws => ∃ (i : Nat) (o : List Fx), vi = .int .i64 i ∧ i ≤ ox.length ∧ ox.length - i ≤ g ∧ Hid (o.length = ox.length) ∧ Hid (∀ k, i ≤ k → o[k]? = ox[k]?) ∧ Hid (XSt A' B' w'.heap.size w' (.slice px ox.length cx) o ws))
    case atStart => exact ⟨0, ox, rfl, by omega, by omega, rfl, fun _ _ => rfl, HX0⟩
    case round =>
    clear HX0
    obtain ⟨a, o, rfl, hai, hga, HOL, HOK, HXS⟩ := hrel
    by_cases halt : a < ox.length
    · have haz : (a : Int) < (ox.length : Int) := by omega
      have ha0 : (0 : Int) ≤ (a : Int) := by omega
      have hao : a < o.length := by rw [HOL.out]; exact halt
      obtain ⟨gx, cx', hsx⟩ := HXS.out.shape (by omega)
      rw [HOL.out] at hsx
      injection hsx with hs1 hs2 hs3
      subst hs1
      clear hs2 hs3
      obtain ⟨c0, c1, f0, f1⟩ := HXS.out.cells HOL.out hao
      have hy8 : (o[a]).txt.length ≤ 1048576 := by
        have h1 := HOK.out a (Nat.le_refl _)
        rw [List.getElem?_eq_getElem hao, List.getElem?_eq_getElem halt] at h1
        rw [Option.some.inj h1]
        exact HOX.out a halt
      have HO1 : Hid (∃ h : a < o.length, (o[a]).txt.length = (o[a]).txt.length) := ⟨hao, rfl⟩
      have HOK1 : Hid (∀ k, a < k → o[k]? = ox[k]?) := fun k hk => HOK.out k (by omega)
      obtain ⟨m, hm⟩ : ∃ m, (o[a]).txt.length = m := ⟨_, rfl⟩
      have HOM : Hid (∃ h : a < o.length, (o[a]).txt.length = m) := ⟨hao, hm⟩
      unfold Fx.sl at c1
      rw [hm] at c1 hy8
      clear HO1 HOK hm
      generalize (o[a]).name = nm0 at c0
      generalize (o[a]).p = p0 at c1
      generalize (o[a]).cap = cc0 at c1
      go_wp2_with fail
      clear c0 c1 f0 f1
      go_loopg [119] m (fun g vj ws => ∃ (j : Nat) (o : List Fx), vj = .int .i64 j ∧ j ≤ m ∧ m - j ≤ g ∧ Hid (o.length = ox.length) ∧ Hid (∃ h : a < o.length, (o[a]).txt.length = m) ∧ Hid (∀ k, a < k → o[k]? = ox[k]?) ∧ Hid (XSt A' B' w'.heap.size w' (.slice (some ⟨gx, 0, none⟩) ox.length cx) o ws))
      case atStart => exact ⟨0, o, rfl, by omega, by omega, HOL, HOM, HOK1, HXS⟩
      case round =>
      clear hao HOL HOM HOK1 HXS
      obtain ⟨j, o2, rfl, hj, hgj, HOL, HOM, HOK, HXS⟩ := hrel
      obtain ⟨hao, hm⟩ := HOM.out
      obtain ⟨c0, c1, f0, f1⟩ := HXS.out.cells HOL.out hao
      by_cases hjl : j < m
      · have hjz : (j : Int) < (m : Int) := by omega
        have hj0 : (0 : Int) ≤ (j : Int) := by omega
        have hot := HXS.out.own.1.2 _ (List.getElem_mem hao)
        obtain ⟨gt, hpt⟩ : ∃ gt, (o2[a]).p = some ⟨gt, 0, none⟩ := by
          rcases hot.2 with ⟨_, h0⟩ | ⟨g, c, cur, hv, _⟩
          · omega
          · unfold Fx.sl at hv
            injection hv with h1 _ _
            exact ⟨g, h1⟩
        have hrow : wr.ownsRow A' 9 1 (.slice (some ⟨gt, 0, none⟩) (o2[a]).txt.length (o2[a]).cap) (o2[a]).txt.length ((o2[a]).txt.map Value.string) := by
          have := hot
          unfold OwnT Fx.sl at this
          rw [hpt] at this
          exact this
        have d0 : wr.cell? ⟨gt, j, none⟩ = some (.string ((o2[a]).txt[j]'(by omega))) := by
          rw [hrow.cellAt _ (by omega)]
          simp [show j < (o2[a]).txt.length by omega]
        have d1 : wr.frozen? ⟨gt, j, none⟩ = false := hrow.frozenAt _
        have HW := hid (HXS.out.wipe hao (j := j) hpt ⟨#[119, 105, 112, 101, 100]⟩)
        have HOL2 : Hid ((o2.set a ⟨(o2[a]).name, (o2[a]).p, (o2[a]).cap, (o2[a]).txt.set j ⟨#[119, 105, 112, 101, 100]⟩⟩).length = ox.length) := by show _ = _; rw [List.length_set]; exact HOL.out
        have HOM2 : Hid (∃ h : a < (o2.set a ⟨(o2[a]).name, (o2[a]).p, (o2[a]).cap, (o2[a]).txt.set j ⟨#[119, 105, 112, 101, 100]⟩⟩).length, ((o2.set a ⟨(o2[a]).name, (o2[a]).p, (o2[a]).cap, (o2[a]).txt.set j ⟨#[119, 105, 112, 101, 100]⟩⟩)[a]).txt.length = m) := ⟨by rw [List.length_set]; exact hao, by rw [List.getElem_set_self]; simp only [List.length_set]; exact hm⟩
        have HOK2 : Hid (∀ k, a < k → (o2.set a ⟨(o2[a]).name, (o2[a]).p, (o2[a]).cap, (o2[a]).txt.set j ⟨#[119, 105, 112, 101, 100]⟩⟩)[k]? = ox[k]?) := fun k hk => by rw [List.getElem?_set_ne (by omega)]; exact HOK.out k hk
        unfold Fx.sl at c1
        rw [hm, hpt] at c1
        generalize (o2[a]).name = nm1 at c0
        generalize (o2[a]).cap = cc1 at c1
        generalize ((o2[a]).txt[j]'(by omega)) = tj at d0
        clear hot hrow hpt hm
        go_wp2_with fail
        go_roundg (m - (j + 1))
        case measure => omega
        case rel => exact ⟨j + 1, _, by go_num, by omega, by omega, HOL2, HOM2, HOK2, HW⟩
      · have hjz : ¬ (j : Int) < (m : Int) := by omega
        clear c0 c1 f0 f1
        have HOM0 : Hid (∃ h : a < o2.length, (o2[a]).txt.length = m + 0) := ⟨hao, hm⟩
        clear hm hao HOM
        go_wp2_with fail
        go_loopg [130] 4 (fun g vj ws => ∃ (q : Nat) (o : List Fx), vj = .int .i64 q ∧ q ≤ 4 ∧ 4 - q ≤ g ∧ Hid (o.length = ox.length) ∧ Hid (∃ h : a < o.length, (o[a]).txt.length = m + q) ∧ Hid (∀ k, a < k → o[k]? = ox[k]?) ∧ Hid (XSt A' B' w'.heap.size w' (.slice (some ⟨gx, 0, none⟩) ox.length cx) o ws))
        case atStart => exact ⟨0, o2, rfl, by omega, by omega, HOL, HOM0, HOK, HXS⟩
        case round =>
        clear HOL HOM0 HOK HXS
        obtain ⟨q, o3, rfl, hq, hgq, HOL, HOM, HOK, HXS⟩ := hrel
        obtain ⟨hao, hm⟩ := HOM.out
        obtain ⟨c0, c1, f0, f1⟩ := HXS.out.cells HOL.out hao
        by_cases hq9 : q < 4
        · have hqz : (q : Int) < 4 := by omega
          have hot := HXS.out.own.1.2 _ (List.getElem_mem hao)
          obtain ⟨T3, hT3⟩ : ∃ T3, (o3[a]).txt.map Value.string = T3 := ⟨_, rfl⟩
          have hrow : wr.ownsRow A' 9 1 (.slice (o3[a]).p (m + q) (o3[a]).cap) (m + q) T3 := by
            have := hot
            unfold OwnT Fx.sl at this
            rw [hT3, hm] at this
            exact this
          have hsl : (o3[a]).sl = .slice (o3[a]).p (m + q) (o3[a]).cap := by unfold Fx.sl; rw [hm]
          have HROW := hid (World.ownsRow.alloc hrow (.cells #[.string ⟨#[109, 111, 114, 101]⟩] 9))
          have HX1 := hid (HXS.out.alloc (.cells #[.string ⟨#[109, 111, 114, 101]⟩] 9))
          have hAw : A' ≤ wr.heap.size := by
            have := HXS.out.kept.size
            have h3 := HAB.out
            omega
          have HT3 := hid hT3
          have HSL := hid hsl
          have HM := hid hm
          have KG : Hid (∀ g4 c4 w4, w4.ownsRow A' 9 1 (.slice (some ⟨g4, 0, none⟩) (m + q + 1) c4) (m + q + 1) (T3 ++ [.string ⟨#[109, 111, 114, 101]⟩]) → (wr.alloc (.cells #[.string ⟨#[109, 111, 114, 101]⟩] 9)).grownBy w4 (Value.slice (o3[a]).p (m + q) (o3[a]).cap).ownBlock →
              ((Value.slice (some ⟨g4, 0, none⟩) (m + q + 1) c4).ownBlock = (Value.slice (o3[a]).p (m + q) (o3[a]).cap).ownBlock ∨ (Value.slice (some ⟨g4, 0, none⟩) (m + q + 1) c4).ownBlock = some (wr.alloc (.cells #[.string ⟨#[109, 111, 114, 101]⟩] 9)).heap.size) →
              w4.cell? ⟨gx, a * 2 + 1, none⟩ = some (.slice (o3[a]).p (m + q) (o3[a]).cap) ∧ w4.frozen? ⟨gx, a * 2 + 1, none⟩ = false ∧ Hid (XSt A' B' w'.heap.size w' (.slice (some ⟨gx, 0, none⟩) ox.length cx) (o3.set a ⟨(o3[a]).name, some ⟨g4, 0, none⟩, c4, (o3[a]).txt ++ [⟨#[109, 111, 114, 101]⟩]⟩) (w4.setCell ⟨gx, a * 2 + 1, none⟩ (.slice (some ⟨g4, 0, none⟩) (m + q + 1) c4)))) := fun g4 c4 w4 h1 h2 h3 => by
            rw [← HSL.out] at h2 h3 ⊢
            exact HX1.out.grow HOL.out hao (ts := (o3[a]).txt ++ [⟨#[109, 111, 114, 101]⟩]) (by rw [List.length_append, HM.out]; rfl) (by rw [List.map_append, HT3.out]; exact h1) h2 h3
          have HOL2 : Hid (∀ y : Fx, (o3.set a y).length = ox.length) := fun y => by rw [List.length_set]; exact HOL.out
          have HOM2 : Hid (∀ y : Fx, y.txt.length = m + (q + 1) → ∃ h : a < (o3.set a y).length, ((o3.set a y)[a]).txt.length = m + (q + 1)) := fun y hy => ⟨by rw [List.length_set]; exact hao, by rw [List.getElem_set_self]; exact hy⟩
          have HTLN : Hid (((o3[a]).txt ++ [(⟨#[109, 111, 114, 101]⟩ : ByteArray)]).length = m + (q + 1)) := by show _ = _; rw [List.length_append, HM.out]; rfl
          have HOK2 : Hid (∀ y : Fx, ∀ k, a < k → (o3.set a y)[k]? = ox[k]?) := fun y k hk => by rw [List.getElem?_set_ne (by omega)]; exact HOK.out k hk
          rw [hsl] at c1
          clear hot hrow hT3 hsl hm c0 f0
          generalize (o3[a]).p = p3 at c1 HROW KG
          generalize (o3[a]).cap = cc3 at c1 HROW KG
          go_wp2_with (first | (at_builtin; refine wpList_append_own_at _ rfl _ _ 35 rfl A' 9 i0 (.string ⟨#[]⟩) 1 16 Try.underlying35 HI.out hz0 hz1 hz2 rfl (by decide) _ _ _ rfl HROW.out ⟨wr.heap.size, 0, none⟩ 1 1 [.string ⟨#[109, 111, 114, 101]⟩] rfl rfl (new_oneK _ _) (txt_oneK _) (by unfold maxLen; omega) (by omega) (by simp; omega) ?_))
          intro v4 w4 hown4 hg4 _ hat4
          obtain ⟨g4, c4, rfl⟩ := ownsRow_succ hown4
          obtain ⟨d1, d2, HX4⟩ := KG.out g4 c4 w4 hown4 hg4 (by rw [World.size_alloc]; exact hat4)
          clear hown4 hg4 hat4 c1 f1
          go_wp2_with fail
          go_roundg (4 - (q + 1))
          case measure => omega
          case rel => exact ⟨q + 1, _, by go_num, by omega, by omega, HOL2.out _, HOM2.out _ HTLN.out, HOK2.out _, HX4⟩
        · have hqz : ¬ (q : Int) < 4 := by omega
          have HRN := hid (HXS.out.rename HOL.out hao ⟨#[119, 105, 112, 101, 100]⟩)
          have HOL2 : Hid (∀ y : Fx, (o3.set a y).length = ox.length) := fun y => by rw [List.length_set]; exact HOL.out
          have HOK2 : Hid (∀ y : Fx, ∀ k, a + 1 ≤ k → (o3.set a y)[k]? = ox[k]?) := fun y k hk => by rw [List.getElem?_set_ne (by omega)]; exact HOK.out k (by omega)
          generalize (o3[a]).name = nm3 at c0
          clear c1 f1 hm
          go_wp2_with fail
          go_roundg (ox.length - (a + 1))
          case measure => omega
          case rel => exact ⟨a + 1, _, by go_num, by omega, by omega, HOL2.out _, HOK2.out _, HRN⟩
    · have haz : ¬ (a : Int) < (ox.length : Int) := by omega
      have HST2 := hid (HFIN.out o wr HXS.out)
      go_wp2_with fail
      go_roundg (2 - (r + 1))
      case measure => omega
      case rel => exact ⟨r + 1, by go_num, by omega, by omega, HST2⟩
  · have hr2z : ¬ (r : Int) < 2 := by omega
    have hk2 := HST.out.2.2 (by omega)
    have hba : Below A we wr := hk2.below (by have := HORD.out; omega) (Nat.le_refl _)
    have HIN := hid (HON.out wr (HAE.out.trans hba))
    have key : ∀ {u : Value} {o : List Fx}, OwnXs C we u o → IsXs wr u o := fun {u o} h => by
      have h1 : OwnXs C wr u o := by
        refine ⟨own_same h.1 fun k hk => ?_, fun x hx => own_same (h.2 x hx) fun k hk => ?_⟩
        · have := World.ownsRow.lt h.1 k hk
          exact hk2.block k this.2 (Or.inr this.1)
        · have := World.ownsRow.lt (h.2 x hx) k hk
          exact hk2.block k this.2 (Or.inr this.1)
      exact h1.is
    have HCI : Hid (IsXs wr uc oc ∧ IsXs wr uw ow) := ⟨key HCW.out.1, key HCW.out.2⟩
    have HT16 : Hid (∀ x ∈ e, x.txt.length ≤ 1048576) := fun x hx => by
      have h1 := totF_mem (List.mem_map.2 ⟨x, hx, rfl⟩ : x.fld ∈ e.map Fx.fld)
      rw [HFE.out] at h1
      have h2 := HTOT.out
      have e2 : x.fld.2.length = x.txt.length := rfl
      omega
    clear hk2 hba HST HCW HSTP HDE HAE HON
    go_wp2_with fail
    go_loopg [152] e.length (fun g vj ws => ∃ j : Nat, vj = .int .i64 j ∧ j ≤ e.length ∧ e.length - j ≤ g ∧ Hid (InsC w Wc e (.slice pi e.length ci) ws) ∧ Hid (IsXs ws uc oc ∧ IsXs ws uw ow))
    case atStart => exact ⟨0, rfl, by omega, by omega, HIN, HCI⟩
    case round =>
      clear HIN HCI
      obtain ⟨j, rfl, hj, hgj, HIN, HCI⟩ := hrel
      by_cases hjl : j < e.length
      · have hjz : (j : Int) < (e.length : Int) := by omega
        have hj0 : (0 : Int) ≤ (j : Int) := by omega
        obtain ⟨gj, hpj, hcj, hmj⟩ := (HIN.out.each _ (List.getElem_mem hjl)).mark
        obtain ⟨p', c', he1, hdi, _⟩ := HIN.out.is
        injection he1 with he1 _ he2
        subst he1
        obtain ⟨bi, oi, rfl, hxi⟩ : ∃ b off, pi = some ⟨b, off, none⟩ ∧ XsAt wr b off e := by
          rcases hdi with h | h
          · rw [h] at hjl; simp at hjl
          · exact h
        have c1 := (hxi j hjl).2
        have hll := HT16.out _ (List.getElem_mem hjl)
        unfold Fx.sl at c1
        rw [hpj, hcj] at c1
        obtain ⟨l, hl0⟩ : ∃ l, (e[j]).txt.length = l := ⟨_, rfl⟩
        rw [hl0] at c1 hmj hll
        replace hmj : wr.cell? ⟨gj, l, none⟩ = some (.string ⟨#[109, 97, 114, 107]⟩) := hmj
        have l1 : (0 : Int) ≤ (l : Int) := by omega
        have l2 : (0 : Int) ≤ (l : Int) + 1 := by omega
        have l3 : (l : Int) < (l : Int) + 1 := by omega
        clear hpj hcj hl0 hdi hxi he2
        go_wp2_with fail
        go_roundg (e.length - (j + 1))
        case measure => omega
        case rel => exact ⟨j + 1, by go_num, by omega, by omega, HIN, HCI⟩
      · have hjz : ¬ (j : Int) < (e.length : Int) := by omega
        have HSF := hid (sameF_any (.slice pi e.length ci) (.slice pv d.length cv) e d wr HIN.out.is (HV.out.kept HIN.out.bel) HFX.out HF.out)
        rw [show decide (e.map Fx.fld = d.map Fx.fld) = true from decide_eq_true HFE.out] at HSF
        go_wp2_with fail
        refine HSF.out.mono ?_
        rintro q w8 ⟨rfl, n8, rfl⟩
        have HSG := hid (sameF_any uc uw oc ow (wr.drewN n8) (HCI.out.1.kept (bel_drewN (Below.refl _ _) n8)) (HCI.out.2.kept (bel_drewN (Below.refl _ _) n8)) (HSA.out oc MC.out).2 (HSA.out ow MW.out).2)
        rw [show decide (oc.map Fx.fld = ow.map Fx.fld) = true from decide_eq_true (MC.out.trans MW.out.symm)] at HSG
        go_wp2_with fail
        refine HSG.out.mono ?_
        rintro q w9 ⟨rfl, n9, rfl⟩
        go_wp2_with fail
        go_ret
        exact ⟨rfl, bel_drewN HIN.out.bel (n8 + n9)⟩

end Go.Proofs.Ytinmagodckkedaa
