/-
  The reference's registry of snapshots in memory (stage 10): Open, is, Close, Stamp.
-/
import Derived.Test.YtkiandchgbldbaaQm0
import Derived.Test.YtkiandchgbldbaaApp
import Derived.Test.YtkiandchgbldbaaKsu
namespace Go.Proofs.Ytkiandchgbldbaa
open Go.RowKit

def KS : Kind Int := ⟨29, 1, fun x => [.int .u64 x], fun _ => rfl, by decide, fun x u hu => by simp at hu; subst hu; rfl⟩
def KF : Kind Bool := ⟨4, 1, fun x => [.bool x], fun _ => rfl, by decide, fun x u hu => by simp at hu; subst hu; rfl⟩

theorem Try.infoU64q : (Try.prog.info? 29).map (fun i => (i.zero, i.size, i.bytes)) = some (some (.int .u64 0), 1, 8) := by kernel_rfl
theorem Try.infoBoolq : (Try.prog.info? 4).map (fun i => (i.zero, i.size, i.bytes)) = some (some (.bool false), 1, 1) := by kernel_rfl

def zipQ (st : List Int) (cl : List Bool) : Sn := List.zipWith (fun s c => if c then none else some s) st cl

theorem zipQ_len {st : List Int} {cl : List Bool} (h : cl.length = st.length) : (zipQ st cl).length = st.length := by
  unfold zipQ; rw [List.length_zipWith]; omega
theorem zipQ_get {st : List Int} {cl : List Bool} (h : cl.length = st.length) (i : Nat) (hi : i < st.length) : (zipQ st cl)[i]'(by rw [zipQ_len h]; exact hi) = if cl[i]'(by omega) then none else some st[i] := by
  unfold zipQ; rw [List.getElem_zipWith]
theorem zipQ_snoc {st : List Int} {cl : List Bool} (h : cl.length = st.length) (x : Int) : zipQ (st ++ [x]) (cl ++ [false]) = zipQ st cl ++ [some x] := by
  unfold zipQ
  rw [List.zipWith_append h.symm]
  rfl
theorem zipQ_set {st : List Int} {cl : List Bool} (h : cl.length = st.length) (i : Nat) : zipQ st (cl.set i true) = (zipQ st cl).set i none := by
  apply List.ext_getElem
  · rw [List.length_set, zipQ_len h, zipQ_len (by rw [List.length_set]; exact h)]
  · intro j h1 h2
    have hj : j < st.length := by rw [zipQ_len (by rw [List.length_set]; exact h)] at h1; exact h1
    rw [zipQ_get (by rw [List.length_set]; exact h) j hj, List.getElem_set, List.getElem_set, zipQ_get h j hj]
    by_cases e : i = j
    · rw [if_pos e, if_pos e]; rfl
    · rw [if_neg e, if_neg e]

theorem atQ_zip {st : List Int} {cl : List Bool} (h : cl.length = st.length) (i : Nat) (hi : i < st.length) : atQ (zipQ st cl) ((i : Int) + 1) = if cl[i]'(by omega) then none else some st[i] := by
  rw [atQ_in (by rw [zipQ_len h]; exact hi), zipQ_get h i hi]

/-- A registry of the reference in block g (its two rows may be of unlike lengths: Open lays the one behind the other). -/
structure RefP (n0 : Nat) (W : World) (g : Nat) (st : List Int) (cl : List Bool) (fl : Int) (vs vc : Value) : Prop where
  obj : W.heap[g]? = some (.cells #[vs, vc, .int .u64 fl] 31 (0, 0))
  low : n0 ≤ g
  s : KS.Own n0 W vs st
  c : KF.Own n0 W vc cl

def BlkR (g : Nat) (vs vc : Value) (k : Nat) : Prop := k = g ∨ vs.ownBlock = some k ∨ vc.ownBlock = some k

theorem RefP.lt {n0 : Nat} {W : World} {g : Nat} {st : List Int} {cl : List Bool} {fl : Int} {vs vc : Value} (h : RefP n0 W g st cl fl vs vc) : g < W.heap.size := (Array.getElem?_eq_some_iff.1 h.obj).1
theorem RefP.cells {n0 : Nat} {W : World} {g : Nat} {st : List Int} {cl : List Bool} {fl : Int} {vs vc : Value} (h : RefP n0 W g st cl fl vs vc) :
    W.cell? ⟨g, 0, none⟩ = some vs ∧ W.cell? ⟨g, 1, none⟩ = some vc ∧ W.cell? ⟨g, 2, none⟩ = some (.int .u64 fl) := by
  rw [Lib.cell_of_heap h.obj, Lib.cell_of_heap h.obj, Lib.cell_of_heap h.obj]
  exact ⟨rfl, rfl, rfl⟩
theorem RefP.free {n0 : Nat} {W : World} {g : Nat} {st : List Int} {cl : List Bool} {fl : Int} {vs vc : Value} (h : RefP n0 W g st cl fl vs vc) (j : Nat) : W.frozen? ⟨g, j, none⟩ = false := Lib.frozen_of_heap h.obj j
theorem RefP.fr {n0 : Nat} {W W' : World} {g : Nat} {st : List Int} {cl : List Bool} {fl : Int} {vs vc : Value} {P : Nat → Prop} (h : RefP n0 W g st cl fl vs vc) (f : Fr P W W') (hP : ∀ k, BlkR g vs vc k → ¬ P k) : RefP n0 W' g st cl fl vs vc :=
  ⟨(f.block g h.lt (hP g (Or.inl rfl))).trans h.obj, h.low, f.row h.s fun k hk => hP k (Or.inr (Or.inl hk)), f.row h.c fun k hk => hP k (Or.inr (Or.inr hk))⟩
theorem RefP.on {n0 : Nat} {W W' : World} {g : Nat} {st : List Int} {cl : List Bool} {fl : Int} {vs vc : Value} (h : RefP n0 W g st cl fl vs vc) (hb : Below W.heap.size W W') : RefP n0 W' g st cl fl vs vc :=
  h.fr (P := fun _ => False) (Fr.of_below hb) fun _ _ k => k

theorem obj_off {W : World} {n0 g k : Nat} {e e' : TypeId} {size n : Nat} {v : Value} {xs : List Value} {cs : Array Value} (ho : W.heap[g]? = some (.cells cs e' (0, 0))) (h : W.ownsRow n0 e size v n xs) (hne : e ≠ e') (hk : v.ownBlock = some k) : k ≠ g := by
  rintro rfl
  rcases h.2 with ⟨rfl, _⟩ | ⟨b, cap, cur, rfl, _, hb, _⟩
  · cases hk
  · have : b = k := by simpa [Value.ownBlock] using hk
    subst this
    rw [ho] at hb
    injection hb with hb
    injection hb with _ hb
    exact hne hb.symm

theorem rows_off {W : World} {n0 k : Nat} {e e' : TypeId} {size size' n n' : Nat} {v v' : Value} {xs xs' : List Value} (h : W.ownsRow n0 e size v n xs) (h' : W.ownsRow n0 e' size' v' n' xs') (hne : e ≠ e') (hk : v.ownBlock = some k) : v'.ownBlock ≠ some k := fun hk' => by
  rcases h.2 with ⟨rfl, _⟩ | ⟨b, cap, cur, rfl, _, hb, _⟩
  · cases hk
  · have e1 : b = k := by simpa [Value.ownBlock] using hk
    subst e1
    exact obj_off hb h' (fun e => hne e.symm) hk' rfl

theorem RefP.blk {n0 : Nat} {W : World} {g : Nat} {st : List Int} {cl : List Bool} {fl : Int} {vs vc : Value} (h : RefP n0 W g st cl fl vs vc) (k : Nat) (hk : BlkR g vs vc k) : n0 ≤ k ∧ k < W.heap.size := by
  rcases hk with rfl | hk | hk
  · exact ⟨h.low, h.lt⟩
  · exact World.ownsRow.lt h.s k hk
  · exact World.ownsRow.lt h.c k hk

/-- The stamps' row has grown, and stands in the registry. -/
theorem RefP.push_s {n0 : Nat} {W W1 w3 : World} {g : Nat} {st st' : List Int} {cl : List Bool} {fl : Int} {vs vc v' : Value} (h : RefP n0 W g st cl fl vs vc) (hb : Below W.heap.size W W1) (hg : W1.grownBy w3 vs.ownBlock)
    (ho : KS.Own n0 w3 v' st') (hat : v'.ownBlock = vs.ownBlock ∨ ∃ k, v'.ownBlock = some k ∧ W.heap.size ≤ k) :
    RefP n0 (w3.setCell ⟨g, 0, none⟩ v') g st' cl fl v' vc ∧ Fr (BlkR g vs vc) W (w3.setCell ⟨g, 0, none⟩ v') ∧ w3.frozen? ⟨g, 0, none⟩ = false ∧ w3.cell? ⟨g, 0, none⟩ = some vs ∧ (∀ k, BlkR g v' vc k → BlkR g vs vc k ∨ W.heap.size ≤ k) := by
  have hlt := h.lt
  have h1 := h.on hb
  have hne : vs.ownBlock ≠ some g := fun e => obj_off h.obj h.s (by decide) e rfl
  have hne' : ∀ k, v'.ownBlock = some k → k ≠ g := fun k hk => by
    rcases hat with e | ⟨k', e, hk'⟩
    · rw [hk] at e
      exact fun e' => hne (by rw [← e, e'])
    · rw [hk] at e
      injection e with e
      omega
  have hobj : w3.heap[g]? = some (.cells #[vs, vc, .int .u64 fl] 31 (0, 0)) := (hg.block g (Nat.lt_of_lt_of_le hlt hb.size) fun e => hne e.symm).trans h1.obj
  have hc3 : KF.Own n0 w3 vc cl := own_same h1.c fun k hk => hg.block k (World.ownsRow.lt h1.c k hk).2 fun e => rows_off h.c h.s (by decide) hk e.symm
  refine ⟨⟨heap_setCell_same w3 g 0 _ _ _ hobj, h.low, own_same ho fun k hk => heap_setCell_other w3 _ k _ (hne' k hk), own_same hc3 fun k hk => heap_setCell_other w3 _ k _ (obj_off h.obj h.c (by decide) hk)⟩, ?_, Lib.frozen_of_heap hobj 0, ?_, ?_⟩
  · refine ⟨hg.os.trans hb.os, hg.tape.trans hb.tape, hg.output.trans hb.output, ?_, fun k hk hn => ?_⟩
    · have := hb.size; have := hg.size; simp; omega
    · rw [heap_setCell_other w3 _ k _ (fun e => hn (Or.inl e)), hg.block k (Nat.lt_of_lt_of_le hk hb.size) (fun e => hn (Or.inr (Or.inl e.symm)))]
      exact hb.block k hk
  · rw [Lib.cell_of_heap hobj]; rfl
  · rintro k (rfl | hk | hk)
    · exact Or.inl (Or.inl rfl)
    · rcases hat with e | ⟨k', e, hk'⟩
      · exact Or.inl (Or.inr (Or.inl (e ▸ hk)))
      · rw [hk] at e
        injection e with e
        exact Or.inr (by omega)
    · exact Or.inl (Or.inr (Or.inr hk))

/-- The other row has grown, and stands in the registry. -/
theorem RefP.push_c {n0 : Nat} {W W1 w3 : World} {g : Nat} {st : List Int} {cl cl' : List Bool} {fl : Int} {vs vc v' : Value} (h : RefP n0 W g st cl fl vs vc) (hb : Below W.heap.size W W1) (hg : W1.grownBy w3 vc.ownBlock)
    (ho : KF.Own n0 w3 v' cl') (hat : v'.ownBlock = vc.ownBlock ∨ ∃ k, v'.ownBlock = some k ∧ W.heap.size ≤ k) :
    RefP n0 (w3.setCell ⟨g, 1, none⟩ v') g st cl' fl vs v' ∧ Fr (BlkR g vs vc) W (w3.setCell ⟨g, 1, none⟩ v') ∧ w3.frozen? ⟨g, 1, none⟩ = false ∧ w3.cell? ⟨g, 1, none⟩ = some vc ∧ (∀ k, BlkR g vs v' k → BlkR g vs vc k ∨ W.heap.size ≤ k) := by
  have hlt := h.lt
  have h1 := h.on hb
  have hne : vc.ownBlock ≠ some g := fun e => obj_off h.obj h.c (by decide) e rfl
  have hne' : ∀ k, v'.ownBlock = some k → k ≠ g := fun k hk => by
    rcases hat with e | ⟨k', e, hk'⟩
    · rw [hk] at e
      exact fun e' => hne (by rw [← e, e'])
    · rw [hk] at e
      injection e with e
      omega
  have hobj : w3.heap[g]? = some (.cells #[vs, vc, .int .u64 fl] 31 (0, 0)) := (hg.block g (Nat.lt_of_lt_of_le hlt hb.size) fun e => hne e.symm).trans h1.obj
  have hc3 : KS.Own n0 w3 vs st := own_same h1.s fun k hk => hg.block k (World.ownsRow.lt h1.s k hk).2 fun e => rows_off h.s h.c (by decide) hk e.symm
  refine ⟨⟨heap_setCell_same w3 g 1 _ _ _ hobj, h.low, own_same hc3 fun k hk => heap_setCell_other w3 _ k _ (obj_off h.obj h.s (by decide) hk), own_same ho fun k hk => heap_setCell_other w3 _ k _ (hne' k hk)⟩, ?_, Lib.frozen_of_heap hobj 1, ?_, ?_⟩
  · refine ⟨hg.os.trans hb.os, hg.tape.trans hb.tape, hg.output.trans hb.output, ?_, fun k hk hn => ?_⟩
    · have := hb.size; have := hg.size; simp; omega
    · rw [heap_setCell_other w3 _ k _ (fun e => hn (Or.inl e)), hg.block k (Nat.lt_of_lt_of_le hk hb.size) (fun e => hn (Or.inr (Or.inr e.symm)))]
      exact hb.block k hk
  · rw [Lib.cell_of_heap hobj]; rfl
  · rintro k (rfl | hk | hk)
    · exact Or.inl (Or.inl rfl)
    · exact Or.inl (Or.inr (Or.inl hk))
    · rcases hat with e | ⟨k', e, hk'⟩
      · exact Or.inl (Or.inr (Or.inr (e ▸ hk)))
      · rw [hk] at e
        injection e with e
        exact Or.inr (by omega)

/-- A registry of the reference, by its snapshots. -/
def RefQ (n0 : Nat) (W : World) (g : Nat) (os : Sn) (fl : Int) (vs vc : Value) : Prop := ∃ st cl, RefP n0 W g st cl fl vs vc ∧ cl.length = st.length ∧ zipQ st cl = os

theorem RefQ.on {n0 : Nat} {W W' : World} {g : Nat} {os : Sn} {fl : Int} {vs vc : Value} (h : RefQ n0 W g os fl vs vc) (hb : Below W.heap.size W W') : RefQ n0 W' g os fl vs vc := by
  obtain ⟨st, cl, h1, h2⟩ := h
  exact ⟨st, cl, h1.on hb, h2⟩
theorem RefQ.fr {n0 : Nat} {W W' : World} {g : Nat} {os : Sn} {fl : Int} {vs vc : Value} {P : Nat → Prop} (h : RefQ n0 W g os fl vs vc) (f : Fr P W W') (hP : ∀ k, BlkR g vs vc k → ¬ P k) : RefQ n0 W' g os fl vs vc := by
  obtain ⟨st, cl, h1, h2⟩ := h
  exact ⟨st, cl, h1.fr f hP, h2⟩
theorem RefQ.blk {n0 : Nat} {W : World} {g : Nat} {os : Sn} {fl : Int} {vs vc : Value} (h : RefQ n0 W g os fl vs vc) (k : Nat) (hk : BlkR g vs vc k) : n0 ≤ k ∧ k < W.heap.size := by
  obtain ⟨st, cl, h1, _⟩ := h
  exact h1.blk k hk

/-- What a call leaves of a registry of the reference. -/
def RTurn (n0 : Nat) (W : World) (g : Nat) (vs vc : Value) (os : Sn) (fl : Int) (w' : World) : Prop := ∃ vs' vc', RefQ n0 w' g os fl vs' vc' ∧ Fr (BlkR g vs vc) W w' ∧ ∀ k, BlkR g vs' vc' k → BlkR g vs vc k ∨ W.heap.size ≤ k

set_option maxHeartbeats 4000000 in
set_option maxRecDepth 100000 in
theorem ropenQ_any (n0 g : Nat) (os : Sn) (fl x : Int) (vs vc : Value) (W : World) (hq : RefQ n0 W g os fl vs vc) (hf : os.length < 17000000000000) (hn : n0 ≤ W.heap.size) :
    Calls Try.prog 19 #[.pointer (some ⟨g, 0, none⟩), .int .u64 x] W fun e w' => e = .returned (.tuple #[.int .i64 (openQ os fl x).1.1, .int .i64 (openQ os fl x).1.2]) ∧ RTurn n0 W g vs vc (openQ os fl x).2 fl w' := by
  obtain ⟨st, cl, h, hlen, rfl⟩ := hq
  rw [zipQ_len hlen] at hf
  obtain ⟨ps, cs, rfl⟩ := Kind.own_shape h.s
  obtain ⟨pc, cc, rfl⟩ := Kind.own_shape h.c
  obtain ⟨k0, k1, k2⟩ := h.cells
  by_cases hlt : x < fl
  · have HQ : Hid (openQ (zipQ st cl) fl x = ((0, 8), zipQ st cl)) := by show _ = _; unfold openQ; rw [if_pos hlt]
    have HH := hid h
    have HLEN := hid hlen
    clear h hlen
    go_enter Try.func19, Try.ntmps19
    go_wp2_with fail
    go_ret2
    rw [HQ.out]
    exact ⟨rfl, _, _, ⟨st, cl, HH.out, HLEN.out, rfl⟩, Fr.refl _ _, fun _ hk => Or.inl hk⟩
  · have HQ : Hid (openQ (zipQ st cl) fl x = (((st.length : Int) + 1, 0), zipQ st cl ++ [some x])) := by show _ = _; unfold openQ; rw [if_neg hlt, zipQ_len hlen]
    obtain ⟨i0, hi0, hz0, hz1, hz2⟩ := info_parts Try.infoU64q
    obtain ⟨j0, hj0, hy0, hy1, hy2⟩ := info_parts Try.infoBoolq
    have HI := hid hi0
    have HJ := hid hj0
    have HH := hid h
    have HLEN := hid hlen
    have hcl : cl.length < 17000000000000 := by omega
    obtain ⟨W1, hW1⟩ : ∃ W1, W.alloc (.cells #[.int .u64 x] 29) = W1 := ⟨_, rfl⟩
    have hb1 : Below W.heap.size W W1 := by rw [← hW1]; exact (Below.refl _ _).alloc (Nat.le_refl _) _
    have h1 := h.on hb1
    have HN1 : Hid (∀ j u, (KS.cells [x])[j]? = some u → W1.cell? ((⟨W.heap.size, 0, none⟩ : Addr).add j) = some u) := by rw [← hW1]; exact KS.news W x
    obtain ⟨q0, q1, q2⟩ := h1.cells
    have HH1 := hid h1
    have HB1 := hid hb1
    clear h h1 hb1 hi0 hj0 hlen
    go_enter Try.func19, Try.ntmps19
    have HS1 : Hid (W1.ownsRow n0 29 1 (.slice ps st.length cs) st.length (KS.cells st)) := HH1.out.s
    go_wp2_with (first
      | (at_builtin; refine wpList_append_lies _ rfl _ _ 27 rfl n0 29 i0 (.int .u64 0) 1 8 Try.underlying27 HI.out hz0 hz1 hz2 rfl (by decide) (.slice ps st.length cs) _ _ rfl HS1.out _ 1 1 (KS.cells [x]) rfl rfl HN1.out (KS.cells_ones _) (by decide) (by unfold maxLen; omega) (by omega) (Nat.le_trans hn HB1.out.size) _ rfl ?_
         intro g3 c3 w3 hown3 hg3 hat3 _
         obtain ⟨hp3, f3, z3, y3, b3⟩ := HH.out.push_s HB1.out hg3 (Kind.own_snoc hown3 rfl rfl) (hat3.imp Eq.symm fun e => ⟨_, by rw [e]; rfl, HB1.out.size⟩)
         clear hg3 hown3 hat3
         obtain ⟨W4, hW4⟩ : ∃ W4, w3.setCell ⟨g, 0, none⟩ (.slice (some ⟨g3, 0, none⟩) (st.length + 1) c3) = W4 := ⟨_, rfl⟩
         obtain ⟨W5, hW5⟩ : ∃ W5, W4.alloc (.cells #[.bool false] 4) = W5 := ⟨_, rfl⟩
         rw [hW4] at hp3 f3
         have hb5 : Below W4.heap.size W4 W5 := by rw [← hW5]; exact (Below.refl _ _).alloc (Nat.le_refl _) _
         have HN5 : Hid (∀ j u, (KF.cells [false])[j]? = some u → W5.cell? ((⟨W4.heap.size, 0, none⟩ : Addr).add j) = some u) := by rw [← hW5]; exact KF.news W4 false
         obtain ⟨e0, e1, e2⟩ := hp3.cells
         obtain ⟨d0, d1, d2⟩ := (hp3.on hb5).cells
         have HP3 := hid hp3
         have HP5 := hid (hp3.on hb5)
         have HC5 : Hid (W5.ownsRow n0 4 1 (.slice pc cl.length cc) cl.length (KF.cells cl)) := HP5.out.c
         have HF3 := hid f3
         have HX3 := hid b3
         have HB5 := hid hb5
         clear hp3 f3 b3 hb5)
      | (at_builtin; refine wpList_append_lies _ rfl _ _ 28 rfl n0 4 j0 (.bool false) 1 1 Try.underlying28 HJ.out hy0 hy1 hy2 rfl (by decide) (.slice pc cl.length cc) _ _ rfl HC5.out _ 1 1 (KF.cells [false]) rfl rfl HN5.out (KF.cells_ones _) (by decide) (by unfold maxLen; omega) (by omega) (Nat.le_trans hn (Nat.le_trans HF3.out.size HB5.out.size)) _ rfl ?_
         intro g6 c6 w6 hown6 hg6 hat6 _
         obtain ⟨hp6, f6, z6, y6, b6⟩ := HP3.out.push_c HB5.out hg6 (Kind.own_snoc hown6 rfl rfl) (hat6.imp Eq.symm fun e => ⟨_, by rw [e]; rfl, HB5.out.size⟩)
         clear hg6 hown6 hat6
         obtain ⟨W7, hW7⟩ : ∃ W7, w6.setCell ⟨g, 1, none⟩ (.slice (some ⟨g6, 0, none⟩) (cl.length + 1) c6) = W7 := ⟨_, rfl⟩
         rw [hW7] at hp6 f6
         obtain ⟨v0, v1, v2⟩ := hp6.cells
         have HP6 := hid hp6
         have HF6 := hid f6
         have HX6 := hid b6
         clear hp6 f6 b6))
    go_ret2
    rw [HQ.out]
    have fr := HF3.out.then HF6.out HX3.out
    refine ⟨?_, _, _, ⟨st ++ [x], cl ++ [false], HP6.out, by simp [HLEN.out], zipQ_snoc HLEN.out x⟩, fr, fun k hk => ?_⟩
    · rfl
    · rcases HX6.out k hk with h1 | h1
      · exact HX3.out k h1
      · exact Or.inr (Nat.le_trans HF3.out.size h1)

end Go.Proofs.Ytkiandchgbldbaa
