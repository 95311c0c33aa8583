/-
  Texts of this claim, one behind the other: Enc Grp Rname Rmay Wri Pri Siz Fix0 Rnm Rnn Sam Fix Ncd App Sze0 Kp0.
-/
import Derived.Test.YtmjchokacmbkoabDoorPa
import Derived.Test.YtmjchokacmbkoabDoorPb
import Derived.Deep.CutRange
import Derived.Laws.CopyOwn
import Derived.Maps.AppendAt
/-
  The contracts of Encode and Size.
-/
namespace Go.Proofs.YtmjchokacmbkoabDoor
open Go.RowKit

def encT (t : ByteArray) : List UInt8 := UInt8.ofNat t.size :: t.data.toList
def encF (f : Fld) : List UInt8 := encT f.1 ++ [UInt8.ofNat f.2.length] ++ f.2.flatMap encT
def encL (fs : List Fld) : List UInt8 := UInt8.ofNat fs.length :: fs.flatMap encF

theorem encT_len (t : ByteArray) : (encT t).length = t.size + 1 := by simp [encT]

theorem flat_len {α : Type} (f : α → List UInt8) (c : Nat) (l : List α) (h : ∀ x ∈ l, (f x).length ≤ c) : (l.flatMap f).length ≤ l.length * c := by
  induction l with
  | nil => simp
  | cons x l ih =>
    rw [List.flatMap_cons, List.length_append, List.length_cons, Nat.add_mul]
    have h1 := h x (by simp)
    have h2 := ih fun y hy => h y (by simp [hy])
    omega

theorem fieldB_len {l : List UInt8} (h : fieldB l = true) : l.length ≤ 32 := by
  unfold fieldB spell at h
  cases l with
  | nil => simp
  | cons c r => simp at h; simp; omega

theorem fits_parts {f : Fld} (h : fitsB f = true) : f.1.size ≤ 32 ∧ 0 < f.2.length ∧ f.2.length ≤ 8 ∧ (∀ t ∈ f.2, t.size ≤ 128) ∧ fieldB f.1.data.toList = true := by
  unfold fitsB at h
  simp only [Bool.and_eq_true, Bool.not_eq_true', decide_eq_true_eq] at h
  obtain ⟨⟨⟨h1, h2⟩, h3⟩, h4⟩ := h
  refine ⟨by simpa using fieldB_len h1, ?_, h3, fun t ht => ?_, h1⟩
  · cases hf : f.2 with
    | nil => rw [hf] at h2; simp at h2
    | cons _ _ => simp
  · rw [List.any_eq_false] at h4
    have := h4 t ht
    unfold longB at this
    simpa using this

theorem fits_texts {f : Fld} (h : fitsB f = true) (j : Nat) : ((f.2.take j).flatMap encT).length ≤ 1032 := by
  obtain ⟨_, _, h3, h4, _⟩ := fits_parts h
  have := flat_len encT 129 (f.2.take j) (fun t ht => by rw [encT_len]; have := h4 t (List.mem_of_mem_take ht); omega)
  rw [List.length_take] at this
  have h5 : min j f.2.length * 129 ≤ 8 * 129 := Nat.mul_le_mul_right _ (by omega)
  omega

theorem encF_len {f : Fld} (h : fitsB f = true) : (encF f).length ≤ 1066 := by
  have h1 := (fits_parts h).1
  have h2 := fits_texts h f.2.length
  rw [List.take_length] at h2
  unfold encF
  rw [List.length_append, List.length_append, encT_len]
  simp only [List.length_cons, List.length_nil]
  omega

theorem may_parts {fs : List Fld} (h : mayB fs = true) : fs.length ≤ 16 ∧ ∀ i, i < fs.length → stepOk fs i = true := by
  unfold mayB at h
  rw [Bool.and_eq_true, decide_eq_true_eq, List.all_eq_true] at h
  exact ⟨h.1, fun i hi => h.2 i (List.mem_range.2 hi)⟩

theorem may_fits {fs : List Fld} (h : mayB fs = true) : ∀ f ∈ fs, fitsB f = true := by
  intro f hf
  obtain ⟨i, hi, rfl⟩ := List.mem_iff_getElem.1 hf
  have := (may_parts h).2 i hi
  unfold stepOk at this
  rw [Bool.and_eq_true, List.getD_eq_getElem?_getD, List.getElem?_eq_getElem hi] at this
  exact this.1

theorem enc_ahead {fs : List Fld} (h : mayB fs = true) (i : Nat) : ((fs.take i).flatMap encF).length ≤ 17056 := by
  have := flat_len encF 1066 (fs.take i) (fun f hf => encF_len (may_fits h f (List.mem_of_mem_take hf)))
  rw [List.length_take] at this
  have h5 : min i fs.length * 1066 ≤ 16 * 1066 := Nat.mul_le_mul_right _ (by have := (may_parts h).1; omega)
  omega

/-- A field's box is no row of bytes. -/
theorem box_kept {w w' : World} {F : Nat} {cs : Array Value} {fr : Nat × Nat} (hk : KeptB w w') (h : w.heap[F]? = some (.cells cs 30 fr)) : w'.heap[F]? = some (.cells cs 30 fr) :=
  hk F _ h (by rintro ⟨cs', fr', e⟩; injection e with _ e; exact absurd e (by decide))

theorem box_cells {w w' : World} {u v : Value} (hk : KeptB (w.alloc (.cells #[u, v] 30)) w') :
    w'.cell? ⟨w.heap.size, 0, none⟩ = some u ∧ w'.cell? ⟨w.heap.size, 1, none⟩ = some v := by
  have hbx := box_kept hk (heap_alloc_new w _)
  exact ⟨by rw [Lib.cell_of_heap hbx]; rfl, by rw [Lib.cell_of_heap hbx]; rfl⟩

def encV (w' : World) (n0 : Nat) (fs : List Fld) (e : Ending) : Prop :=
  if mayB fs = true then ∃ v, e = .returned (.tuple #[v, .int .i64 0]) ∧ OwnB n0 w' v (encL fs) else e = .returned (.tuple #[.slice none 0 0, .int .i64 3])

set_option maxHeartbeats 4000000 in
set_option maxRecDepth 100000 in
theorem encode_no (v : Value) (d : List Fx) (w : World) (hv : IsXs w v d) (hf : FitX d) (hm : mayB (d.map Fx.fld) = false) :
    Calls Tryd.prog 18 #[v] w fun e w' => e = .returned (.tuple #[.slice none 0 0, .int .i64 3]) ∧ Grown w w' := by
  have HM := hid (may_any v d w hv hf)
  rw [hm] at HM
  clear hv
  go_enter Tryd.func18, Tryd.ntmps18
  go_wp2_with (first | (go_at_call 16; refine HM.out.mono ?_; rintro e w1 ⟨rfl, hg⟩))
  go_ret2
  exact ⟨rfl, hg⟩

set_option maxHeartbeats 4000000 in
set_option maxRecDepth 100000 in
theorem encode_yes (v : Value) (d : List Fx) (w : World) (hv : IsXs w v d) (hf : FitX d) (hm : mayB (d.map Fx.fld) = true) :
    Calls Tryd.prog 18 #[v] w fun e w' => (∃ u, e = .returned (.tuple #[u, .int .i64 0]) ∧ OwnB w.heap.size w' u (encL (d.map Fx.fld))) ∧ Below w.heap.size w w' := by
  have HM := hid (may_any v d w hv hf)
  rw [hm] at HM
  obtain ⟨i0, hi, hz0, hz1, hz2⟩ := info_parts Tryd.infoByte
  obtain ⟨p, cap, rfl, hd, ht⟩ := hv
  have HT := hid ht
  have HF := hid hf.2
  have hl := hf.1
  unfold maxLen at hl
  have HD := hid hd
  have HI := hid hi
  clear hi
  have HMM := hid hm
  clear ht hf hd hm
  go_enter Tryd.func18, Tryd.ntmps18
  go_wp2_with (first | (go_at_call 16; refine HM.out.mono ?_; rintro e w1 ⟨rfl, hg⟩))
  go_loopg [4, 18] d.length (fun g vb vi wr => ∃ i : Nat, vi = .int .i64 i ∧ i ≤ d.length ∧ d.length - i ≤ g ∧ Below w.heap.size w wr ∧ OwnB w.heap.size wr vb (UInt8.ofNat d.length :: ((d.map Fx.fld).take i).flatMap encF))
  case atStart =>
    refine ⟨0, rfl, by omega, by omega, (hg.below).alloc hg.below.size _, ?_⟩
    have := World.ownsRow_lit (base := w.heap.size) (e := 5) (size := 1) w1 #[.int .u8 ((d.length : Int) % 256)] 1 hg.below.size (by decide) rfl
    unfold OwnB
    simpa [Lib.byteCells] using this
  case round =>
    obtain ⟨i, rfl, hi, hgk, hb, hob⟩ := hrel
    by_cases hlt : i < d.length
    · have hltz : (i : Int) < (d.length : Int) := by omega
      have hiz : (0 : Int) ≤ i := by omega
      obtain ⟨b, off, rfl, hxs⟩ : ∃ b off, p = some ⟨b, off, none⟩ ∧ XsAt w b off d := by
        rcases HD.out with h | h
        · subst h; simp at hlt
        · exact h
      obtain ⟨c0, c1⟩ := hxs.kept hb i hlt
      have hxi : (d[i]).at w := HT.out _ (List.getElem_mem hlt)
      have hfi : fitsB (d[i]).fld = true := may_fits HMM.out _ (List.mem_map.2 ⟨_, List.getElem_mem hlt, rfl⟩)
      have htk : ((d.map Fx.fld).take (i + 1)).flatMap encF = ((d.map Fx.fld).take i).flatMap encF ++ encF (d[i]).fld := by
        rw [List.take_succ_eq_append_getElem (by rw [List.length_map]; exact hlt), List.flatMap_append]
        simp
      obtain ⟨x, hx⟩ : ∃ x, d[i] = x := ⟨_, rfl⟩
      rw [hx] at c0 c1 hxi hfi htk
      obtain ⟨b2, off2, hp2, ht2⟩ : ∃ b off, x.p = some ⟨b, off, none⟩ ∧ ∀ i, (h : i < x.txt.length) → w.cell? ⟨b, off + i, none⟩ = some (.string x.txt[i]) := by
        rcases hxi with h | h
        · have := (fits_parts hfi).2.1
          simp only [Fx.fld] at this
          rw [h] at this; simp at this
        · exact h
      have HT2 := hid ht2
      have HFI := hid hfi
      have HTK := hid htk
      have hal := enc_ahead HMM.out i
      obtain ⟨acc, hacc⟩ : ∃ acc, UInt8.ofNat d.length :: ((d.map Fx.fld).take i).flatMap encF = acc := ⟨_, rfl⟩
      have hacl : acc.length ≤ 17057 := by rw [← hacc, List.length_cons]; omega
      rw [hacc] at hob
      obtain ⟨hn32, _, hn8, _⟩ := fits_parts hfi
      have hob1 : OwnB w.heap.size (wr.alloc (.cells #[.string x.name, .slice (some ⟨b2, off2, none⟩) x.txt.length x.cap] 30)) u4 acc := hob.on ((Below.refl _ _).alloc (Nat.le_refl _) _)
      have HOB := hid hob1
      have HACC := hid hacc
      have HB := hid hb
      have hsz := hb.size
      clear hxs hxi hx htk hal hacc hob hob1 hfi ht2
      unfold Fx.sl at c1
      rw [hp2] at c1
      clear hp2
      simp only [Fx.fld] at hn32 hn8
      go_wp2_with (first | (go_at_call 34; refine (withText_any w.heap.size _ acc _ _ HOB.out (by simp; omega) (by omega)).mono ?_; rintro e w2 ⟨v2, rfl, hob2, hb2, hk2⟩; obtain ⟨d0, d1⟩ := box_cells hk2) | (at_builtin; refine wpList_append_own _ rfl _ _ 39 rfl w.heap.size 5 i0 (.int .u8 0) 1 1 Tryd.underlying39 HI.out hz0 hz1 hz2 rfl (by decide) _ _ _ rfl (World.ownsRow.alloc hob2 _) ⟨w2.heap.size, 0, none⟩ 1 1 [.int .u8 (x.txt.length : Int)] rfl rfl ?c1 ?c2 ?c3 ?c4 ?c5 ?_))
      case c1 =>
        intro j u hj
        match j, hj with
        | 0, hj => simp at hj; subst hj; simp [Addr.add]
      case c2 => intro u hu; simp at hu; subst hu; rfl
      case c3 => unfold maxLen; simp; omega
      case c4 => simp; omega
      case c5 => have := hb2.size; simp at this ⊢; omega
      intro v3 w3 hown3 hg3 _
      have hbw : Below w.heap.size w w2 := (HB.out.alloc hsz _).trans hb2
      have hbw3 : Below w.heap.size w w3 := (hbw.alloc hbw.size _).grown hg3 (by have := hbw.size; simp; omega) (fun k hk => (World.ownsRow.lt hob2 k hk).1)
      have hk3 : KeptB (wr.alloc (.cells #[.string x.name, .slice (some ⟨b2, off2, none⟩) x.txt.length x.cap] 30)) w3 := (hk2.trans (KeptB.alloc w2 _)).trans (KeptB.grown (World.ownsRow.alloc hob2 _) hg3)
      obtain ⟨f0, f1⟩ := box_cells hk3
      have hob3 : OwnB w.heap.size w3 v3 (acc ++ encT x.name ++ [UInt8.ofNat x.txt.length]) := by
        unfold OwnB
        have e1 : (acc ++ encT x.name ++ [UInt8.ofNat x.txt.length]).length = acc.length + (x.name.size + 1) + 1 := by simp [encT]; omega
        have e2 : Lib.byteCells (acc ++ encT x.name ++ [UInt8.ofNat x.txt.length]) = Lib.byteCells (acc ++ UInt8.ofNat x.name.size :: x.name.data.toList) ++ [.int .u8 (x.txt.length : Int)] := by
          simp [Lib.byteCells, encT]
          omega
        rw [e1, e2]
        exact hown3
      have HOB3 := hid hob3
      have HBW3 := hid hbw3
      clear hown3 hg3 hob2 hk2 hk3 hbw hob3 hbw3 d0 d1 hb2
      obtain ⟨ac2, hac2⟩ : ∃ ac2, acc ++ encT x.name ++ [UInt8.ofNat x.txt.length] = ac2 := ⟨_, rfl⟩
      have hac2l : ac2.length ≤ 17100 := by rw [← hac2]; simp [encT_len]; omega
      have HAC2 := hid hac2
      rw [hac2] at HOB3
      clear hac2
      go_wp2_with fail
      go_loopg [4, 36] x.txt.length (fun g vb vj wr2 => ∃ j : Nat, vj = .int .i64 j ∧ j ≤ x.txt.length ∧ x.txt.length - j ≤ g ∧ Below w.heap.size w wr2 ∧ OwnB w.heap.size wr2 vb (ac2 ++ (x.txt.take j).flatMap encT))
      case atStart => exact ⟨0, rfl, by omega, by omega, HBW3.out, by simpa using HOB3.out⟩
      case round =>
        obtain ⟨j, rfl, hj, hgj, hbj, hobj⟩ := hrel
        by_cases hlj : j < x.txt.length
        · have hljz : (j : Int) < (x.txt.length : Int) := by omega
          have hjz : (0 : Int) ≤ j := by omega
          have t0 : wr.cell? ⟨b2, off2 + j, none⟩ = some (.string x.txt[j]) := (hbj.cell (p := ⟨b2, off2 + j, none⟩) (cell_block (HT2.out j hlj))).trans (HT2.out j hlj)
          have hts : x.txt[j].size ≤ 128 := (fits_parts HFI.out).2.2.2.1 _ (List.getElem_mem hlj)
          have htl := fits_texts HFI.out j
          simp only [Fx.fld] at htl
          have hstep : (x.txt.take (j + 1)).flatMap encT = (x.txt.take j).flatMap encT ++ encT x.txt[j] := by
            rw [List.take_succ_eq_append_getElem hlj, List.flatMap_append]; simp
          obtain ⟨t, hte⟩ : ∃ t, x.txt[j] = t := ⟨_, rfl⟩
          rw [hte] at t0 hts hstep
          have HST := hid hstep
          have HOJ := hid hobj
          have HBJ := hid hbj
          have hszj := hbj.size
          clear hte hstep hobj hbj
          go_wp2_with (first | (go_at_call 34; refine (withText_any w.heap.size _ _ _ _ HOJ.out hszj (by rw [List.length_append]; omega)).mono ?_; rintro e w4 ⟨v4, rfl, hob4, hb4, hk4⟩))
          go_roundg (x.txt.length - (j + 1))
          case measure => omega
          refine ⟨j + 1, by go_num, by omega, by omega, HBJ.out.trans hb4, ?_⟩
          rw [HST.out, ← List.append_assoc]
          exact hob4
        · have hljz : ¬ (j : Int) < (x.txt.length : Int) := by omega
          have htk2 : x.txt.take j = x.txt := List.take_of_length_le (by omega)
          rw [htk2] at hobj
          have HOJ := hid hobj
          have HBJ := hid hbj
          clear hobj hbj htk2
          go_wp2_with fail
          go_roundg (d.length - (i + 1))
          case measure => omega
          refine ⟨i + 1, by go_num, by omega, by omega, HBJ.out, ?_⟩
          rw [HTK.out]
          have e3 : UInt8.ofNat d.length :: (((d.map Fx.fld).take i).flatMap encF ++ encF x.fld) = ac2 ++ x.txt.flatMap encT := by
            rw [← HAC2.out, ← HACC.out]
            simp [encF, Fx.fld]
          rw [e3]
          exact HOJ.out
    · have hltz : ¬ (i : Int) < (d.length : Int) := by omega
      have htk2 : (d.map Fx.fld).take i = d.map Fx.fld := List.take_of_length_le (by rw [List.length_map]; omega)
      rw [htk2] at hob
      have HOJ := hid hob
      clear hob htk2
      go_wp2_with fail
      go_ret2
      refine ⟨⟨_, rfl, ?_⟩, hb⟩
      unfold encL
      rw [List.length_map]
      exact HOJ.out

end Go.Proofs.YtmjchokacmbkoabDoor

/-
  What joins of fields in order are: each name once, in order, with all its texts.
-/
namespace Go.Proofs.YtmjchokacmbkoabDoor
open Go.RowKit Go.Sort Go.Lib

/-- All texts of a name, one after the other. -/
def txtOf (fs : List Fld) (c : ByteArray) : List ByteArray := (fs.filter fun x => decide (x.1 = c)).flatMap (·.2)

def Rising (l : List Fld) : Prop := l.Pairwise fun x y => ltB x.1 y.1 = true

theorem txtOf_snoc (l : List Fld) (f : Fld) (c : ByteArray) : txtOf (l ++ [f]) c = txtOf l c ++ if f.1 = c then f.2 else [] := by
  unfold txtOf
  rw [List.filter_append, List.flatMap_append]
  by_cases e : f.1 = c
  · rw [if_pos e, List.filter_cons_of_pos (by simp [e])]; simp
  · rw [if_neg e, List.filter_cons_of_neg (by simp [e])]; simp

theorem txtOf_none {l : List Fld} {c : ByteArray} (h : ∀ f ∈ l, f.1 ≠ c) : txtOf l c = [] := by
  unfold txtOf
  rw [List.filter_eq_nil_iff.2 (fun x hx => by simpa using h x hx)]
  rfl

structure Groups (l o : List Fld) : Prop where
  rising : Rising o
  names : ∀ c, (∃ f ∈ o, f.1 = c) ↔ ∃ f ∈ l, f.1 = c
  texts : ∀ f ∈ o, f.2 = txtOf l f.1

theorem ltB_ne {a b : ByteArray} (h : ltB a b = true) : a ≠ b := by
  rintro rfl
  rw [ltB_irrefl] at h
  cases h

theorem ltB_lt_le {a b c : ByteArray} (h : ltB a b = true) (k : ltB c b = false) : ltB a c = true := by
  rcases ltB_cases b c with h1 | rfl | h1
  · exact ltB_trans h h1
  · exact h
  · rw [k] at h1; cases h1

theorem Groups.step {l o : List Fld} {f : Fld} (h : Groups l o) (hf : ∀ x ∈ l, ltB f.1 x.1 = false) : Groups (l ++ [f]) (joinStep o f) := by
  obtain ⟨h1, h2, h3⟩ := h
  have hfo : ∀ x ∈ o, ltB f.1 x.1 = false := fun x hx => by
    obtain ⟨y, hy, e⟩ := (h2 x.1).1 ⟨x, hx, rfl⟩
    rw [← e]; exact hf y hy
  rcases List.eq_nil_or_concat o with rfl | ⟨o', g, rfl⟩
  · have hl : l = [] := by
      cases l with
      | nil => rfl
      | cons y l =>
        obtain ⟨z, hz, _⟩ := (h2 y.1).2 ⟨y, by simp, rfl⟩
        simp at hz
    subst hl
    rw [joinStep_nil]
    refine ⟨List.pairwise_singleton _ _, fun c => by simp, fun x hx => ?_⟩
    rw [List.mem_singleton] at hx
    subst hx
    simp [txtOf]
  · rw [List.concat_eq_append] at *
    have hr := List.pairwise_append.1 h1
    have ho' : ∀ x ∈ o', ltB x.1 g.1 = true := fun x hx => hr.2.2 x hx g (by simp)
    have hgf := hfo g (by simp)
    by_cases e : g.1 = f.1
    · rw [joinStep_same _ _ _ e]
      refine ⟨?_, fun c => ?_, fun x hx => ?_⟩
      · refine List.pairwise_append.2 ⟨hr.1, List.pairwise_singleton _ _, fun a ha b hb => ?_⟩
        rw [List.mem_singleton] at hb
        subst hb
        exact ho' a ha
      · have := h2 c
        constructor
        · rintro ⟨x, hx, rfl⟩
          rw [List.mem_append, List.mem_singleton] at hx
          rcases hx with hx | rfl
          · obtain ⟨y, hy, ey⟩ := (h2 x.1).1 ⟨x, by simp [hx], rfl⟩
            exact ⟨y, by simp [hy], ey⟩
          · exact ⟨f, by simp, e.symm⟩
        · rintro ⟨y, hy, rfl⟩
          rw [List.mem_append, List.mem_singleton] at hy
          rcases hy with hy | rfl
          · obtain ⟨x, hx, ex⟩ := this.2 ⟨y, hy, rfl⟩
            rw [List.mem_append, List.mem_singleton] at hx
            rcases hx with hx | rfl
            · exact ⟨x, by simp [hx], ex⟩
            · exact ⟨_, List.mem_append_right _ (List.mem_singleton.2 rfl), ex⟩
          · exact ⟨_, List.mem_append_right _ (List.mem_singleton.2 rfl), e⟩
      · rw [List.mem_append, List.mem_singleton] at hx
        rcases hx with hx | rfl
        · rw [txtOf_snoc, if_neg (fun k => ltB_ne (ho' x hx) (k.symm.trans e.symm)), List.append_nil]
          exact h3 x (by simp [hx])
        · show g.2 ++ f.2 = txtOf (l ++ [f]) g.1
          rw [txtOf_snoc, if_pos e.symm, ← h3 g (by simp)]
    · rw [joinStep_other _ _ _ e]
      have hgf' : ltB g.1 f.1 = true := by
        rcases ltB_cases g.1 f.1 with k | k | k
        · exact k
        · exact absurd k e
        · rw [hgf] at k; cases k
      have hlt : ∀ x ∈ o' ++ [g], ltB x.1 f.1 = true := fun x hx => by
        rw [List.mem_append, List.mem_singleton] at hx
        rcases hx with hx | rfl
        · exact ltB_trans (ho' x hx) hgf'
        · exact hgf'
      refine ⟨?_, fun c => ?_, fun x hx => ?_⟩
      · refine List.pairwise_append.2 ⟨h1, List.pairwise_singleton _ _, fun a ha b hb => ?_⟩
        rw [List.mem_singleton] at hb
        subst hb
        exact hlt a ha
      · constructor
        · rintro ⟨x, hx, rfl⟩
          rw [List.mem_append, List.mem_singleton] at hx
          rcases hx with hx | rfl
          · obtain ⟨y, hy, ey⟩ := (h2 x.1).1 ⟨x, hx, rfl⟩
            exact ⟨y, List.mem_append_left _ hy, ey⟩
          · exact ⟨x, by simp, rfl⟩
        · rintro ⟨y, hy, rfl⟩
          rw [List.mem_append, List.mem_singleton] at hy
          rcases hy with hy | rfl
          · obtain ⟨x, hx, ex⟩ := (h2 y.1).2 ⟨y, hy, rfl⟩
            exact ⟨x, List.mem_append_left _ hx, ex⟩
          · exact ⟨y, by simp, rfl⟩
      · rw [List.mem_append, List.mem_singleton] at hx
        rcases hx with hx | rfl
        · rw [txtOf_snoc, if_neg (fun k => ltB_ne (hlt x hx) k.symm), List.append_nil]
          exact h3 x hx
        · rw [txtOf_snoc, if_pos rfl, txtOf_none, List.nil_append]
          intro y hy k
          obtain ⟨z, hz, ez⟩ := (h2 y.1).2 ⟨y, hy, rfl⟩
          exact ltB_ne (hlt z hz) (ez.trans k)

theorem joinS_groups (l : List Fld) (h : InOrder l) : Groups l (joinS l) := by
  have : ∀ k, k ≤ l.length → Groups (l.take k) (joinS (l.take k)) := by
    intro k
    induction k with
    | zero => intro _; exact ⟨List.Pairwise.nil, fun c => by simp [joinS], fun f hf => by simp [joinS] at hf⟩
    | succ k ih =>
      intro hk
      rw [List.take_succ_eq_append_getElem hk, joinS_snoc]
      refine (ih (by omega)).step fun x hx => ?_
      have h1 : InOrder (l.take (k + 1)) := h.sublist (List.take_sublist _ _)
      rw [List.take_succ_eq_append_getElem hk] at h1
      exact (List.pairwise_append.1 h1).2.2 x hx _ (by simp)
  have := this l.length (Nat.le_refl _)
  rwa [List.take_length] at this

theorem normF_groups (fs : List Fld) : Groups fs (normF fs) := by
  obtain ⟨h1, h2⟩ := sortS_spec fs
  obtain ⟨g1, g2, g3⟩ := joinS_groups _ h1
  have hm : ∀ c, (∃ f ∈ sortS fs, f.1 = c) ↔ ∃ f ∈ fs, f.1 = c := fun c => by
    have e := h2 c
    constructor
    · rintro ⟨f, hf, rfl⟩
      have : f ∈ fs.filter (fun x => decide (x.1 = f.1)) := by rw [← e]; exact List.mem_filter.2 ⟨hf, by simp⟩
      exact ⟨f, (List.mem_filter.1 this).1, rfl⟩
    · rintro ⟨f, hf, rfl⟩
      have : f ∈ (sortS fs).filter (fun x => decide (x.1 = f.1)) := by rw [e]; exact List.mem_filter.2 ⟨hf, by simp⟩
      exact ⟨f, (List.mem_filter.1 this).1, rfl⟩
  refine ⟨g1, fun c => (g2 c).trans (hm c), fun f hf => ?_⟩
  rw [g3 f hf]
  unfold txtOf
  rw [h2]

/-- Groups are one. -/
theorem groups_unique {l o p : List Fld} (h : Groups l o) (k : Groups l p) : o = p := by
  refine order_unique o p (h.rising.imp fun hxy => ltB_asymm hxy) (k.rising.imp fun hxy => ltB_asymm hxy) fun c => ?_
  have one : ∀ {q : List Fld}, Groups l q → q.filter (fun x => decide (x.1 = c)) = if ∃ f ∈ l, f.1 = c then [(c, txtOf l c)] else [] := by
    intro q hq
    split
    · rename_i hex
      obtain ⟨f, hf, rfl⟩ := (hq.names c).2 hex
      obtain ⟨a, b, rfl⟩ := List.append_of_mem hf
      have hr := List.pairwise_append.1 hq.rising
      have hr2 := List.pairwise_cons.1 hr.2.1
      have ha : a.filter (fun x => decide (x.1 = f.1)) = [] := List.filter_eq_nil_iff.2 fun x hx e => ltB_ne (hr.2.2 x hx f (by simp)) (by simpa using e)
      have hb : b.filter (fun x => decide (x.1 = f.1)) = [] := List.filter_eq_nil_iff.2 fun x hx e => ltB_ne (hr2.1 x hx) (Eq.symm (of_decide_eq_true e))
      rw [List.filter_append, ha, List.filter_cons_of_pos (by simp), hb, List.nil_append, ← hq.texts f (by simp)]
    · rename_i hex
      refine List.filter_eq_nil_iff.2 fun x hx e => hex ((hq.names c).1 ⟨x, hx, by simpa using e⟩)
  rw [one h, one k]

/-- The least name above the last one, of these; none: the empty one. -/
def scanStep (last nx : ByteArray) (f : Fld) : ByteArray := if ltB last f.1 && (decide (nx.size = 0) || ltB f.1 nx) then f.1 else nx
def scanN (last : ByteArray) (fs : List Fld) : ByteArray := fs.foldl (scanStep last) ⟨#[]⟩

theorem scanN_snoc (last : ByteArray) (l : List Fld) (f : Fld) : scanN last (l ++ [f]) = scanStep last (scanN last l) f := by simp [scanN]

theorem scan_spec (last : ByteArray) (fs : List Fld) (hne : ∀ f ∈ fs, f.1.size ≠ 0) :
    (scanN last fs = ⟨#[]⟩ ∧ ∀ f ∈ fs, ltB last f.1 = false) ∨ ((scanN last fs).size ≠ 0 ∧ (∃ f ∈ fs, f.1 = scanN last fs) ∧ ltB last (scanN last fs) = true ∧ ∀ g ∈ fs, ltB last g.1 = true → ltB g.1 (scanN last fs) = false) := by
  have : ∀ k, k ≤ fs.length → (scanN last (fs.take k) = ⟨#[]⟩ ∧ ∀ f ∈ fs.take k, ltB last f.1 = false) ∨ ((scanN last (fs.take k)).size ≠ 0 ∧ (∃ f ∈ fs.take k, f.1 = scanN last (fs.take k)) ∧ ltB last (scanN last (fs.take k)) = true ∧ ∀ g ∈ fs.take k, ltB last g.1 = true → ltB g.1 (scanN last (fs.take k)) = false) := by
    intro k
    induction k with
    | zero => intro _; left; exact ⟨rfl, fun f hf => by simp at hf⟩
    | succ k ih =>
      intro hk
      have ih := ih (by omega)
      rw [List.take_succ_eq_append_getElem hk, scanN_snoc]
      have hnf : (fs[k]).1.size ≠ 0 := hne _ (List.getElem_mem hk)
      generalize fs[k] = f at hnf ⊢
      generalize fs.take k = l at ih ⊢
      generalize scanN last l = r at ih ⊢
      unfold scanStep
      cases c1 : ltB last f.1 with
      | false =>
        rw [Bool.false_and, if_neg (by simp)]
        rcases ih with ⟨i1, i2⟩ | ⟨i1, ⟨x, hx, ex⟩, i3, i4⟩
        · left
          refine ⟨i1, fun x hx => ?_⟩
          rw [List.mem_append, List.mem_singleton] at hx
          rcases hx with hx | rfl
          · exact i2 x hx
          · exact c1
        · right
          refine ⟨i1, ⟨x, by simp [hx], ex⟩, i3, fun g hg hl => ?_⟩
          rw [List.mem_append, List.mem_singleton] at hg
          rcases hg with hg | rfl
          · exact i4 g hg hl
          · rw [c1] at hl; cases hl
      | true =>
        rcases ih with ⟨i1, i2⟩ | ⟨i1, ⟨x, hx, ex⟩, i3, i4⟩
        · have : decide (r.size = 0) = true := by rw [i1]; rfl
          rw [this, if_pos (by simp)]
          right
          refine ⟨hnf, ⟨f, by simp, rfl⟩, c1, fun g hg hl => ?_⟩
          rw [List.mem_append, List.mem_singleton] at hg
          rcases hg with hg | rfl
          · rw [i2 g hg] at hl; cases hl
          · exact ltB_irrefl _
        · rw [decide_eq_false i1, Bool.false_or, Bool.true_and]
          right
          cases c2 : ltB f.1 r with
          | true =>
            rw [if_pos rfl]
            refine ⟨hnf, ⟨f, by simp, rfl⟩, c1, fun g hg hl => ?_⟩
            rw [List.mem_append, List.mem_singleton] at hg
            rcases hg with hg | rfl
            · have := i4 g hg hl
              cases c3 : ltB g.1 f.1 with
              | false => rfl
              | true => rw [ltB_trans c3 c2] at this; cases this
            · exact ltB_irrefl _
          | false =>
            rw [if_neg (by simp)]
            refine ⟨i1, ⟨x, by simp [hx], ex⟩, i3, fun g hg hl => ?_⟩
            rw [List.mem_append, List.mem_singleton] at hg
            rcases hg with hg | rfl
            · exact i4 g hg hl
            · exact c2
  have h := this fs.length (Nat.le_refl _)
  rwa [List.take_length] at h

theorem ltB_nil {c : ByteArray} (h : c.size ≠ 0) : ltB ⟨#[]⟩ c = true := by
  rcases ltB_cases ⟨#[]⟩ c with k | k | k
  · exact k
  · rw [← k] at h; exact absurd rfl h
  · unfold ltB at k
    rw [decide_eq_true_iff] at k
    exfalso
    have e : (ByteArray.mk #[]).data.toList = [] := rfl
    rw [e] at k
    cases hc : c.data.toList with
    | nil => rw [hc] at k; simp [Lib.compareBytes] at k
    | cons x l => rw [hc] at k; simp [Lib.compareBytes] at k

/-- The name of the group behind the first k of them. -/
def lastOf (o : List Fld) (k : Nat) : ByteArray := if k = 0 then ⟨#[]⟩ else (o.getD (k - 1) default).1

theorem Rising.get {o : List Fld} (h : Rising o) {i j : Nat} (hij : i < j) (hj : j < o.length) : ltB (o[i]'(by omega)).1 (o[j]).1 = true := by
  exact List.pairwise_iff_getElem.1 h i j (by omega) hj hij

theorem scan_next {fs o : List Fld} (h : Groups fs o) (hne : ∀ f ∈ fs, f.1.size ≠ 0) (k : Nat) (hk : k ≤ o.length) : scanN (lastOf o k) fs = if hlt : k < o.length then (o[k]).1 else ⟨#[]⟩ := by
  have hno : ∀ f ∈ o, f.1.size ≠ 0 := fun f hf => by
    obtain ⟨g, hg, e⟩ := (h.names f.1).1 ⟨f, hf, rfl⟩
    rw [← e]; exact hne g hg
  have hge : ∀ j, (hj : j < o.length) → k ≤ j → ltB (lastOf o k) (o[j]).1 = true := fun j hj hkj => by
    unfold lastOf
    split
    · exact ltB_nil (hno _ (List.getElem_mem hj))
    · rw [List.getD_eq_getElem?_getD, List.getElem?_eq_getElem (show k - 1 < o.length by omega)]
      exact h.rising.get (by omega) hj
  have hlt : ∀ j, (hj : j < o.length) → j < k → ltB (lastOf o k) (o[j]).1 = false := fun j hj hkj => by
    unfold lastOf
    rw [if_neg (by omega), List.getD_eq_getElem?_getD, List.getElem?_eq_getElem (show k - 1 < o.length by omega)]
    show ltB (o[k - 1]).1 (o[j]).1 = false
    by_cases e : j = k - 1
    · subst e; exact ltB_irrefl _
    · exact ltB_asymm (h.rising.get (show j < k - 1 by omega) (by omega))
  rcases scan_spec (lastOf o k) fs hne with ⟨s1, s2⟩ | ⟨s1, ⟨x, hx, ex⟩, s3, s4⟩
  · rw [s1, dif_neg]
    intro hk'
    obtain ⟨y, hy, ey⟩ := (h.names (o[k]).1).1 ⟨_, List.getElem_mem hk', rfl⟩
    have h1 := s2 y hy
    rw [ey, hge k hk' (Nat.le_refl _)] at h1
    cases h1
  · obtain ⟨z, hz, ez⟩ := (h.names x.1).2 ⟨x, hx, rfl⟩
    obtain ⟨j, hj, rfl⟩ := List.mem_iff_getElem.1 hz
    have hjk : k ≤ j := by
      refine Nat.le_of_not_lt fun hjk => ?_
      have h1 := hlt j hj hjk
      rw [ez, ex, s3] at h1
      cases h1
    have hk' : k < o.length := by omega
    rw [dif_pos hk', ← ex, ← ez]
    have h2 : ¬ k < j := fun hkj => by
      obtain ⟨y, hy, ey⟩ := (h.names (o[k]).1).1 ⟨_, List.getElem_mem hk', rfl⟩
      have h1 := s4 y hy (by rw [ey]; exact hge k hk' (Nat.le_refl _))
      rw [ey, ← ex, ← ez, h.rising.get hkj hj] at h1
      cases h1
    obtain rfl : k = j := by omega
    rfl

theorem scan_size {fs o : List Fld} (h : Groups fs o) (hne : ∀ f ∈ fs, f.1.size ≠ 0) {k : Nat} (hk : k < o.length) : (o[k]).1.size ≠ 0 := by
  obtain ⟨g, hg, e⟩ := (h.names (o[k]).1).1 ⟨_, List.getElem_mem hk, rfl⟩
  rw [← e]; exact hne g hg

/-- A group's texts, nine of them at most. -/
def capF (f : Fld) : Fld := (f.1, f.2.take 9)

theorem cap_getD (o : List Fld) (i : Nat) : ((o.map capF).getD i default).1 = (o.getD i default).1 := by
  rw [List.getD_eq_getElem?_getD, List.getD_eq_getElem?_getD, List.getElem?_map]
  cases o[i]? with
  | none => rfl
  | some _ => rfl

theorem cap_id {f : Fld} (h : f.2.length ≤ 8) : capF f = f := by
  unfold capF
  rw [List.take_of_length_le (by omega)]

theorem cap_map {o : List Fld} (h : ∀ f ∈ o, f.2.length ≤ 8) : o.map capF = o := by
  induction o with
  | nil => rfl
  | cons f o ih => rw [List.map_cons, cap_id (h f (by simp)), ih (fun g hg => h g (by simp [hg]))]

theorem cap_may (o : List Fld) : mayB (o.map capF) = mayB o := by
  by_cases hs : ∀ f ∈ o, f.2.length ≤ 8
  · rw [cap_map hs]
  · have hno : ∃ f ∈ o, ¬ f.2.length ≤ 8 := by
      refine Classical.byContradiction fun hc => hs fun f hf => Classical.byContradiction fun hl => hc ⟨f, hf, hl⟩
    obtain ⟨f, hf, hl⟩ := hno
    have e1 : mayB o = false := by
      cases hm : mayB o with
      | false => rfl
      | true => have := (fits_parts (may_fits hm f hf)).2.2.1; omega
    have e2 : mayB (o.map capF) = false := by
      cases hm : mayB (o.map capF) with
      | false => rfl
      | true =>
        have := (fits_parts (may_fits hm (capF f) (List.mem_map.2 ⟨f, hf, rfl⟩))).2.2.1
        simp only [capF, List.length_take] at this
        omega
    rw [e1, e2]

/-- What the reference asks at its end. -/
theorem cap_end (o : List Fld) : (decide (16 < o.length) || !mayB ((o.take 17).map capF)) = !mayB o := by
  by_cases h : 16 < o.length
  · rw [decide_eq_true h, may_long h]; rfl
  · rw [decide_eq_false h, Bool.false_or, List.take_of_length_le (by omega), cap_may]

theorem cap_same {o : List Fld} (h : mayB o = true) : (o.take 17).map capF = o := by
  have := (may_parts h).1
  rw [List.take_of_length_le (by omega), cap_map fun f hf => (fits_parts (may_fits h f hf)).2.2.1]

end Go.Proofs.YtmjchokacmbkoabDoor

/-
  The contracts of the reference's class and Field.
-/
namespace Go.Proofs.YtmjchokacmbkoabDoor
open Go.RowKit

def cls (n : Int) : Int := if bigB n then 1 else if smallB n then 2 else if digB n then 3 else if n = 45 ∨ n = 46 then 4 else 0

theorem cls_cases (n : Int) :
    (cls n = 1 ∧ bigB n = true ∧ smallB n = false ∧ letB n = true ∧ lodB n = true ∧ idB n = true) ∨
    (cls n = 2 ∧ bigB n = false ∧ smallB n = true ∧ letB n = true ∧ lodB n = true ∧ idB n = true) ∨
    (cls n = 3 ∧ bigB n = false ∧ smallB n = false ∧ letB n = false ∧ lodB n = true ∧ idB n = true) ∨
    (cls n = 4 ∧ bigB n = false ∧ smallB n = false ∧ letB n = false ∧ lodB n = false ∧ idB n = true) ∨
    (cls n = 0 ∧ bigB n = false ∧ smallB n = false ∧ letB n = false ∧ lodB n = false ∧ idB n = false) := by
  cases h1 : bigB n
  · cases h2 : smallB n
    · cases h3 : digB n
      · by_cases h4 : n = 45 ∨ n = 46
        · right; right; right; left
          refine ⟨by simp [cls, h1, h2, h3, h4], rfl, rfl, by simp [letB, h1, h2], by simp [lodB, letB, h1, h2, h3], ?_⟩
          rcases h4 with rfl | rfl <;> decide
        · right; right; right; right
          have h45 : (n == 45) = false := beq_eq_false_iff_ne.2 fun e => h4 (.inl e)
          have h46 : (n == 46) = false := beq_eq_false_iff_ne.2 fun e => h4 (.inr e)
          exact ⟨by simp [cls, h1, h2, h3, h4], rfl, rfl, by simp [letB, h1, h2], by simp [lodB, letB, h1, h2, h3], by simp [idB, lodB, letB, h1, h2, h3, h45, h46]⟩
      · right; right; left
        exact ⟨by simp [cls, h1, h2, h3], rfl, rfl, by simp [letB, h1, h2], by simp [lodB, h3], by simp [idB, lodB, h3]⟩
    · right; left
      exact ⟨by simp [cls, h1, h2], rfl, rfl, by simp [letB, h2], by simp [lodB, letB, h2], by simp [idB, lodB, letB, h2]⟩
  · left
    have h2 : smallB n = false := by
      rw [bigB_true] at h1
      rw [Bool.eq_false_iff, Ne, smallB_true]; omega
    exact ⟨by simp [cls, h1], rfl, h2, by simp [letB, h1], by simp [lodB, letB, h1], by simp [idB, lodB, letB, h1]⟩

set_option maxHeartbeats 400000 in
theorem class_any (n : Int) (w : World) : Calls Tryd.prog 48 #[.int .u8 n] w fun e w' => e = .returned (.int .i64 (cls n)) ∧ w' = w := by
  go_enter Tryd.func48, Tryd.ntmps48
  go_wp2
  all_goals go_ret
  all_goals refine ⟨ret_int ?_, rfl⟩
  all_goals (simp_all [cls, bigB, smallB, digB]; try omega)

set_option maxHeartbeats 1000000 in
theorem rfield_any (s : ByteArray) (w : World) (hs : s.size ≤ maxLen) :
    Calls Tryd.prog 30 #[.string s] w fun e w' => e = .returned (.bool (fieldB s.data.toList)) ∧ w' = w := by
  unfold maxLen at hs
  have HE := hid (spell_empty smallB lodB s)
  have HG := hid (spell_long smallB lodB s)
  have HF := hid (spell_first smallB lodB s)
  have HA := hid (spell_at smallB lodB s)
  have HT := hid (spell_true smallB lodB s)
  have HB : Hid (fieldB s.data.toList = spell smallB lodB s.data.toList) := rfl
  go_enter Tryd.func30, Tryd.ntmps30
  go_wp2
  go_loop [3] (fun i => ∃ k : Nat, k ≤ s.size ∧ i = .int .i64 k ∧ (∀ j, j < k → (hj : j < s.size) → (j = 0 → smallB (s[j].toNat : Int) = true) ∧ (1 ≤ j → lodB (s[j].toNat : Int) = true))) (fun i => s.size - (intOf i).toNat)
  case atStart => exact ⟨0, by omega, rfl, fun j h => by omega⟩
  case round =>
    obtain ⟨k, hk, rfl, hall⟩ := hrel
    have HL := hid hall
    clear hall
    by_cases hlt : k < s.size
    · rcases Nat.eq_zero_or_pos k with h0 | h0
      · have HZ := hid h0
        have hz : ((k : Int) == 0) = true := by rw [h0]; rfl
        clear h0
        rcases cls_cases (s[k].toNat : Int) with h | h | h | h | h
        all_goals
          have HC := hid h
          clear h
          go_wp2_with (go_at_call 48; refine (class_any _ _).mono ?_; rintro e w' ⟨rfl, rfl⟩; rw [HC.out.1])
          first
          | (go_ret; exact ⟨ret_bool (by rw [HB.out]; have hz' := HZ.out; subst hz'; exact (HF.out hlt (by first | exact HC.out.2.1 | exact HC.out.2.2.1 | exact HC.out.2.2.2.2.1 | exact HC.out.2.2.2.2.2)).symm), rfl⟩)
          | (go_round
             case rel =>
               refine ⟨k + 1, by omega, by go_num, fun j h1 hj => ?_⟩
               have hz' := HZ.out
               have hj0 : j = k := by omega
               subst hj0
               exact ⟨fun _ => (by first | exact HC.out.2.1 | exact HC.out.2.2.1 | exact HC.out.2.2.2.2.1 | exact HC.out.2.2.2.2.2), fun _ => by omega⟩
             case measure => simp [intOf]; omega)
      · have HZ := hid h0
        have hz : ((k : Int) == 0) = false := by rw [beq_eq_false_iff_ne]; omega
        clear h0
        rcases cls_cases (s[k].toNat : Int) with h | h | h | h | h
        all_goals
          have HC := hid h
          clear h
          go_wp2_with (go_at_call 48; refine (class_any _ _).mono ?_; rintro e w' ⟨rfl, rfl⟩; rw [HC.out.1])
          first
          | (go_ret; exact ⟨ret_bool (by rw [HB.out]; exact (HA.out k HZ.out hlt (by first | exact HC.out.2.2.2.1 | exact HC.out.2.2.2.2.1 | exact HC.out.2.2.2.2.2)).symm), rfl⟩)
          | (go_round
             case rel =>
               refine ⟨k + 1, by omega, by go_num, fun j h1 hj => ?_⟩
               by_cases hjk : j = k
               · subst hjk
                 exact ⟨fun e => by have := HZ.out; omega, fun _ => (by first | exact HC.out.2.2.2.1 | exact HC.out.2.2.2.2.1 | exact HC.out.2.2.2.2.2)⟩
               · exact HL.out j (by omega) hj
             case measure => simp [intOf]; omega)
    · have hks : k = s.size := by omega
      rcases Nat.eq_zero_or_pos s.size with hz | hz
      · have hn : ¬ (0 : Int) < (s.size : Int) := by omega
        have HZ := hid hz
        clear hz hks
        go_wp2_with fail
        go_ret
        exact ⟨ret_bool (by rw [HB.out]; exact (HE.out HZ.out).symm), rfl⟩
      · have hn : (0 : Int) < (s.size : Int) := by omega
        by_cases hm : s.size ≤ 32
        · have hm' : (s.size : Int) ≤ 32 := by omega
          have HK := hid hks
          clear hks
          go_wp2_with fail
          go_ret
          refine ⟨ret_bool (by rw [HB.out]; exact (HT.out hz hm ((HL.out 0 (by have := HK.out; omega) hz).1 rfl) (fun j h1 hj => (HL.out j (by have := HK.out; omega) hj).2 h1)).symm), rfl⟩
        · have hm' : ¬ (s.size : Int) ≤ 32 := by omega
          clear hks
          go_wp2_with fail
          go_ret
          exact ⟨ret_bool (by rw [HB.out]; exact (HG.out (by omega)).symm), rfl⟩

end Go.Proofs.YtmjchokacmbkoabDoor

/-
  The contract of the reference's May.
-/
namespace Go.Proofs.YtmjchokacmbkoabDoor
open Go.RowKit

theorem step_of {fs : List Fld} {i : Nat} {f : Fld} (h : fs.getD i default = f) (h1 : fieldB f.1.data.toList = true) (h2 : 0 < f.2.length) (h3 : f.2.length ≤ 8) (h4 : ∀ t ∈ f.2, t.size ≤ 128) (h5 : i = 0 ∨ ltN (fs.getD (i - 1) default).1 f.1 = true) : stepOk fs i = true := by
  unfold stepOk fitsB
  rw [h, h1, decide_eq_true h3]
  have e1 : f.2.isEmpty = false := by
    cases hf : f.2 with
    | nil => rw [hf] at h2; simp at h2
    | cons _ _ => rfl
  have e2 : f.2.any longB = false := by
    rw [List.any_eq_false]
    intro t ht
    have := h4 t ht
    unfold longB
    simpa using this
  rw [e1, e2]
  rcases h5 with h5 | h5
  · rw [decide_eq_true h5]; rfl
  · rw [h5]; simp

theorem step_not {fs : List Fld} {i : Nat} {f : Fld} (h : fs.getD i default = f) (hn : fieldB f.1.data.toList = false ∨ f.2.length = 0 ∨ 8 < f.2.length ∨ (∃ t ∈ f.2, 128 < t.size) ∨ (i ≠ 0 ∧ ltN (fs.getD (i - 1) default).1 f.1 = false)) : stepOk fs i = false := by
  unfold stepOk fitsB
  rw [h]
  rcases hn with hn | hn | hn | ⟨t, ht, hn⟩ | ⟨hn, hm⟩
  · rw [hn]; rfl
  · rw [List.length_eq_zero_iff] at hn
    rw [hn]; simp
  · rw [decide_eq_false (by omega)]; simp
  · have : f.2.any longB = true := by
      rw [List.any_eq_true]
      exact ⟨t, ht, by unfold longB; simpa using hn⟩
    rw [this]; simp
  · rw [decide_eq_false hn, hm]; simp

set_option maxHeartbeats 1000000 in
set_option maxRecDepth 100000 in
theorem rmay_any (v : Value) (d : List Fx) (w : World) (hv : IsXs w v d) (hf : FitX d) : Calls Tryd.prog 31 #[v] w fun e w' => e = .returned (.bool (mayB (d.map Fx.fld))) ∧ Grown w w' := by
  obtain ⟨p, cap, rfl, hd, ht⟩ := hv
  have HT := hid ht
  have HF := hid hf.2
  have hl := hf.1
  unfold maxLen at hl
  have HD := hid hd
  clear ht hf hd
  obtain ⟨r, hr⟩ : ∃ r, mayB (d.map Fx.fld) = r := ⟨_, rfl⟩
  rw [hr]
  have HR := hid hr
  clear hr
  go_enter Tryd.func31, Tryd.ntmps31
  go_wp2_with fail
  go_loopg [3] d.length (fun g vi wr => ∃ i : Nat, vi = .int .i64 i ∧ i ≤ d.length ∧ i ≤ 16 ∧ d.length - i ≤ g ∧ Grown w wr ∧ Hid (∀ j, j < i → stepOk (d.map Fx.fld) j = true))
  case atStart => exact ⟨0, rfl, by omega, by omega, by omega, Grown.refl _, fun j h => by omega⟩
  case round =>
    obtain ⟨i, rfl, hi, hi16, hg, hb, HJ⟩ := hrel
    by_cases hlt : i < d.length
    · have hltz : (i : Int) < (d.length : Int) := by omega
      have hiz : (0 : Int) ≤ i := by omega
      obtain ⟨b, off, rfl, hxs⟩ : ∃ b off, p = some ⟨b, off, none⟩ ∧ XsAt w b off d := by
        rcases HD.out with h | h
        · subst h; simp at hlt
        · exact h
      have hxr := hxs.kept hb.below
      obtain ⟨c0, c1⟩ := hxr i hlt
      have hxi : (d[i]).at wr := (HT.out _ (List.getElem_mem hlt)).kept hb.below
      have hfi := HF.out _ (List.getElem_mem hlt)
      have hsx := flds_at hlt
      obtain ⟨x, hx⟩ : ∃ x, d[i] = x := ⟨_, rfl⟩
      rw [hx] at c0 c1 hxi hfi hsx
      have HXR := hid hxr
      have HXI := hid hxi
      have hns : x.name.size ≤ maxLen := hfi.1
      have htl : x.txt.length ≤ maxLen := hfi.2.1
      unfold maxLen at htl
      have HNS := hid hns
      have HFI := hid hfi
      have HSX := hid hsx
      clear hxr hxs hxi hfi hx hsx hns
      unfold Fx.sl at c1
      have mixed := Tryd.mixed
      have HFX : Hid (∀ W, Calls Tryd.prog 30 #[.string x.name] W fun e w' => e = .returned (.bool (fieldB x.name.data.toList)) ∧ w' = W) := fun W => rfield_any x.name W HNS.out
      by_cases h16 : i = 16
      · subst h16
        have H0 : Hid (r = false) := HR.out.symm.trans (may_long (by rw [List.length_map]; omega))
        go_wp2_with fail
        go_quiet (fail)
        go_wp2_with fail
        go_ret
        exact ⟨ret_bool H0.out.symm, (hb.alloc _).drewN _⟩
      have h16z : decide ((16 : Int) ≤ (i : Int)) = false := decide_eq_false (by omega)
      cases hfx : fieldB x.name.data.toList with
      | false =>
        rw [hfx] at HFX
        have H0 : Hid (r = false) := HR.out.symm.trans (may_no (i := i) (by rw [List.length_map]; exact hlt) (step_not HSX.out (Or.inl hfx)))
        go_wp2_with fail
        refine wp_region_quiet_lit mixed (by kernel_rfl) ?_
        repeat (go_big_quiet_step (first | (go_at_call 30; refine Calls.quiet_of_same (HFX.out _))))
        refine wpQuiet_nil ?_
        intro _ hw'
        obtain ⟨nq, hw''⟩ := hw'
        subst hw''
        go_wp2_with fail
        go_ret
        exact ⟨ret_bool H0.out.symm, (hb.alloc _).drewN _⟩
      | true =>
        rw [hfx] at HFX
        by_cases h0 : i = 0
        · have h0z : decide ((0 : Int) < (i : Int)) = false := decide_eq_false (by omega)
          have h0y : decide (0 < i) = false := decide_eq_false (by omega)
          have H00 := hid h0
          clear h0
          by_cases ht0 : x.txt.length = 0
          · have ht0z : (x.txt.length : Int) = 0 := by omega
            have H0 : Hid (r = false) := HR.out.symm.trans (may_no (i := i) (by rw [List.length_map]; exact hlt) (step_not HSX.out (Or.inr (Or.inl ht0))))
            go_wp2_with fail
            refine wp_region_quiet_lit mixed (by kernel_rfl) ?_
            repeat (go_big_quiet_step (first | (go_at_call 30; refine Calls.quiet_of_same (HFX.out _))))
            refine wpQuiet_nil ?_
            intro _ hw'
            obtain ⟨nq, hw''⟩ := hw'
            subst hw''
            go_wp2_with fail
            go_ret
            exact ⟨ret_bool H0.out.symm, (hb.alloc _).drewN _⟩
          have ht0z : ¬ (x.txt.length : Int) = 0 := by omega
          have ht0d : ((x.txt.length : Int) == 0) = false := beq_eq_false_iff_ne.2 ht0z
          by_cases ht8 : 8 < x.txt.length
          · have ht8z : (8 : Int) < (x.txt.length : Int) := by omega
            have H0 : Hid (r = false) := HR.out.symm.trans (may_no (i := i) (by rw [List.length_map]; exact hlt) (step_not HSX.out (Or.inr (Or.inr (Or.inl ht8)))))
            go_wp2_with fail
            refine wp_region_quiet_lit mixed (by kernel_rfl) ?_
            repeat (go_big_quiet_step (first | (go_at_call 30; refine Calls.quiet_of_same (HFX.out _))))
            refine wpQuiet_nil ?_
            intro _ hw'
            obtain ⟨nq, hw''⟩ := hw'
            subst hw''
            go_wp2_with fail
            go_ret
            exact ⟨ret_bool H0.out.symm, (hb.alloc _).drewN _⟩
          have ht8z : decide ((8 : Int) < (x.txt.length : Int)) = false := decide_eq_false (by omega)
          have HST : Hid ((∀ t ∈ x.txt, t.size ≤ 128) → stepOk (d.map Fx.fld) (i) = true) := fun h => step_of HSX.out hfx (by show 0 < x.txt.length; omega) (by show x.txt.length ≤ 8; omega) h (Or.inl H00.out)
          obtain ⟨bt, ot, hpt, hct0⟩ : ∃ bt ot, x.p = some ⟨bt, ot, none⟩ ∧ ∀ l, (h : l < x.txt.length) → wr.cell? ⟨bt, ot + l, none⟩ = some (.string x.txt[l]) := by
            rcases HXI.out with h | h
            · exact absurd (by rw [h]; rfl) ht0
            · exact h
          have HCT0 := hid hct0
          rw [hpt] at c1
          clear hpt hct0
          go_wp2_with fail
          refine wp_region_quiet_lit mixed (by kernel_rfl) ?_
          repeat (go_big_quiet_step (first | (go_at_call 30; refine Calls.quiet_of_same (HFX.out _))))
          refine wpQuiet_nil ?_
          intro _ hw'
          obtain ⟨nq, hw''⟩ := hw'
          subst hw''
          go_wp2_with fail
          obtain ⟨W2, hW2⟩ : ∃ W2, (wr.alloc (.cells #[.string x.name, .slice (some ⟨bt, ot, none⟩) x.txt.length x.cap] 30)).drewN nq = W2 := ⟨_, rfl⟩
          have hgW : Grown wr W2 := by rw [← hW2]; exact ((Grown.refl wr).alloc _).drewN _
          have q1 : W2.cell? ⟨wr.heap.size, 1, none⟩ = some (.slice (some ⟨bt, ot, none⟩) x.txt.length x.cap) := by rw [← hW2]; exact (x_new wr ⟨x.name, some ⟨bt, ot, none⟩, x.cap, x.txt⟩ (wr.alloc _) (Below.refl _ _)).2
          have hat : ∀ l, (h : l < x.txt.length) → W2.cell? ⟨bt, ot + l, none⟩ = some (.string x.txt[l]) := fun l h => (hgW.below.cell (p := ⟨bt, ot + l, none⟩) (cell_block (HCT0.out l h))).trans (HCT0.out l h)
          have HGW := hid hgW
          have HAT := hid hat
          rw [hW2]
          clear hgW hat hW2
          go_loopg [5] x.txt.length (fun g vj W => ∃ j : Nat, vj = .int .i64 j ∧ j ≤ x.txt.length ∧ x.txt.length - j ≤ g ∧ W = W2 ∧ Hid (∀ l (h : l < x.txt.length), l < j → (x.txt[l]).size ≤ 128))
          case atStart => exact ⟨0, rfl, by omega, by omega, rfl, fun l _ h => by omega⟩
          case round =>
            obtain ⟨j, rfl, hj, hgj, rfl, HL⟩ := hrel
            by_cases hjl : j < x.txt.length
            · have hjz : (j : Int) < (x.txt.length : Int) := by omega
              have hj0 : (0 : Int) ≤ (j : Int) := by omega
              have ctj := HAT.out j hjl
              obtain ⟨t, htt⟩ : ∃ t, x.txt[j] = t := ⟨_, rfl⟩
              have HTT := hid htt
              rw [htt] at ctj
              clear htt
              by_cases hts : 128 < t.size
              · have htsz : (128 : Int) < (t.size : Int) := by omega
                have H0 : Hid (r = false) := HR.out.symm.trans (may_no (i := i) (by rw [List.length_map]; exact hlt) (step_not HSX.out (Or.inr (Or.inr (Or.inr (Or.inl ⟨t, by rw [← HTT.out]; exact List.getElem_mem hjl, hts⟩))))))
                go_wp2_with fail
                go_ret
                exact ⟨ret_bool H0.out.symm, hb.trans HGW.out⟩
              · have htsz : ¬ (128 : Int) < (t.size : Int) := by omega
                go_wp2_with fail
                go_roundg (x.txt.length - (j + 1))
                case measure => omega
                refine ⟨j + 1, by go_num, by omega, by omega, rfl, fun l hl hlj => ?_⟩
                by_cases e : l = j
                · subst e; rw [HTT.out]; omega
                · exact HL.out l hl (by omega)
            · have hjz : ¬ (j : Int) < (x.txt.length : Int) := by omega
              have H1 := hid (HST.out fun t ht => by
                obtain ⟨l, hl, rfl⟩ := List.mem_iff_getElem.1 ht
                exact HL.out l hl (by omega))
              go_wp2_with fail
              go_roundg (d.length - (i + 1))
              case measure => omega
              refine ⟨i + 1, by go_num, by omega, by omega, by omega, hb.trans HGW.out, fun l hl => ?_⟩
              by_cases e : l = i
              · subst e; exact H1.out
              · exact HJ.out l (by omega)
        · obtain ⟨k, rfl⟩ : ∃ k, i = k + 1 := ⟨i - 1, by omega⟩
          obtain ⟨e0, _⟩ := HXR.out k (by omega)
          have hsy := flds_at (d := d) (i := k) (by omega)
          obtain ⟨y, hy⟩ : ∃ y, d[k] = y := ⟨_, rfl⟩
          rw [hy] at e0 hsy
          have HSY := hid hsy
          clear hy hsy
          have k1 : (0 : Int) < (k : Int) + 1 := by omega
          have hltk : (k : Int) + 1 < (d.length : Int) := by omega
          have h16y : decide ((16 : Int) ≤ (k : Int) + 1) = false := decide_eq_false (by omega)
          have k2 : (0 : Int) ≤ (k : Int) := by omega
          have k3 : (k : Int) < (d.length : Int) := by omega
          have e1 : ∀ o, (wr.alloc o).cell? ⟨b, off + k * 2, none⟩ = some (.string y.name) := fun o => by
            rw [← e0]; exact ((Below.refl wr.heap.size wr).alloc (Nat.le_refl _) _).cell (p := ⟨b, off + k * 2, none⟩) (cell_block e0)
          cases hlt2 : Op.bytesLess y.name.toList x.name.toList with
          | false =>
            have H0 : Hid (r = false) := HR.out.symm.trans (may_no (i := k + 1) (by rw [List.length_map]; exact hlt) (step_not HSX.out (Or.inr (Or.inr (Or.inr (Or.inr ⟨by omega, by rw [Nat.add_sub_cancel, HSY.out]; exact hlt2⟩))))))
            go_wp2_with fail
            refine wp_region_quiet_lit mixed (by kernel_rfl) ?_
            repeat (go_big_quiet_step (first | (go_at_call 30; refine Calls.quiet_of_same (HFX.out _))))
            refine wpQuiet_nil ?_
            intro _ hw'
            obtain ⟨nq, hw''⟩ := hw'
            subst hw''
            go_wp2_with fail
            go_ret
            exact ⟨ret_bool H0.out.symm, (hb.alloc _).drewN _⟩
          | true =>
            by_cases ht0 : x.txt.length = 0
            · have ht0z : (x.txt.length : Int) = 0 := by omega
              have H0 : Hid (r = false) := HR.out.symm.trans (may_no (i := k + 1) (by rw [List.length_map]; exact hlt) (step_not HSX.out (Or.inr (Or.inl ht0))))
              go_wp2_with fail
              refine wp_region_quiet_lit mixed (by kernel_rfl) ?_
              repeat (go_big_quiet_step (first | (go_at_call 30; refine Calls.quiet_of_same (HFX.out _))))
              refine wpQuiet_nil ?_
              intro _ hw'
              obtain ⟨nq, hw''⟩ := hw'
              subst hw''
              go_wp2_with fail
              go_ret
              exact ⟨ret_bool H0.out.symm, (hb.alloc _).drewN _⟩
            have ht0z : ¬ (x.txt.length : Int) = 0 := by omega
            have ht0d : ((x.txt.length : Int) == 0) = false := beq_eq_false_iff_ne.2 ht0z
            by_cases ht8 : 8 < x.txt.length
            · have ht8z : (8 : Int) < (x.txt.length : Int) := by omega
              have H0 : Hid (r = false) := HR.out.symm.trans (may_no (i := k + 1) (by rw [List.length_map]; exact hlt) (step_not HSX.out (Or.inr (Or.inr (Or.inl ht8)))))
              go_wp2_with fail
              refine wp_region_quiet_lit mixed (by kernel_rfl) ?_
              repeat (go_big_quiet_step (first | (go_at_call 30; refine Calls.quiet_of_same (HFX.out _))))
              refine wpQuiet_nil ?_
              intro _ hw'
              obtain ⟨nq, hw''⟩ := hw'
              subst hw''
              go_wp2_with fail
              go_ret
              exact ⟨ret_bool H0.out.symm, (hb.alloc _).drewN _⟩
            have ht8z : decide ((8 : Int) < (x.txt.length : Int)) = false := decide_eq_false (by omega)
            have HST : Hid ((∀ t ∈ x.txt, t.size ≤ 128) → stepOk (d.map Fx.fld) (k + 1) = true) := fun h => step_of HSX.out hfx (by show 0 < x.txt.length; omega) (by show x.txt.length ≤ 8; omega) h (Or.inr (by rw [Nat.add_sub_cancel, HSY.out]; exact hlt2))
            obtain ⟨bt, ot, hpt, hct0⟩ : ∃ bt ot, x.p = some ⟨bt, ot, none⟩ ∧ ∀ l, (h : l < x.txt.length) → wr.cell? ⟨bt, ot + l, none⟩ = some (.string x.txt[l]) := by
              rcases HXI.out with h | h
              · exact absurd (by rw [h]; rfl) ht0
              · exact h
            have HCT0 := hid hct0
            rw [hpt] at c1
            clear hpt hct0
            go_wp2_with fail
            refine wp_region_quiet_lit mixed (by kernel_rfl) ?_
            repeat (go_big_quiet_step (first | (go_at_call 30; refine Calls.quiet_of_same (HFX.out _))))
            refine wpQuiet_nil ?_
            intro _ hw'
            obtain ⟨nq, hw''⟩ := hw'
            subst hw''
            go_wp2_with fail
            obtain ⟨W2, hW2⟩ : ∃ W2, (wr.alloc (.cells #[.string x.name, .slice (some ⟨bt, ot, none⟩) x.txt.length x.cap] 30)).drewN nq = W2 := ⟨_, rfl⟩
            have hgW : Grown wr W2 := by rw [← hW2]; exact ((Grown.refl wr).alloc _).drewN _
            have q1 : W2.cell? ⟨wr.heap.size, 1, none⟩ = some (.slice (some ⟨bt, ot, none⟩) x.txt.length x.cap) := by rw [← hW2]; exact (x_new wr ⟨x.name, some ⟨bt, ot, none⟩, x.cap, x.txt⟩ (wr.alloc _) (Below.refl _ _)).2
            have hat : ∀ l, (h : l < x.txt.length) → W2.cell? ⟨bt, ot + l, none⟩ = some (.string x.txt[l]) := fun l h => (hgW.below.cell (p := ⟨bt, ot + l, none⟩) (cell_block (HCT0.out l h))).trans (HCT0.out l h)
            have HGW := hid hgW
            have HAT := hid hat
            rw [hW2]
            clear hgW hat hW2
            go_loopg [5] x.txt.length (fun g vj W => ∃ j : Nat, vj = .int .i64 j ∧ j ≤ x.txt.length ∧ x.txt.length - j ≤ g ∧ W = W2 ∧ Hid (∀ l (h : l < x.txt.length), l < j → (x.txt[l]).size ≤ 128))
            case atStart => exact ⟨0, rfl, by omega, by omega, rfl, fun l _ h => by omega⟩
            case round =>
              obtain ⟨j, rfl, hj, hgj, rfl, HL⟩ := hrel
              by_cases hjl : j < x.txt.length
              · have hjz : (j : Int) < (x.txt.length : Int) := by omega
                have hj0 : (0 : Int) ≤ (j : Int) := by omega
                have ctj := HAT.out j hjl
                obtain ⟨t, htt⟩ : ∃ t, x.txt[j] = t := ⟨_, rfl⟩
                have HTT := hid htt
                rw [htt] at ctj
                clear htt
                by_cases hts : 128 < t.size
                · have htsz : (128 : Int) < (t.size : Int) := by omega
                  have H0 : Hid (r = false) := HR.out.symm.trans (may_no (i := k + 1) (by rw [List.length_map]; exact hlt) (step_not HSX.out (Or.inr (Or.inr (Or.inr (Or.inl ⟨t, by rw [← HTT.out]; exact List.getElem_mem hjl, hts⟩))))))
                  go_wp2_with fail
                  go_ret
                  exact ⟨ret_bool H0.out.symm, hb.trans HGW.out⟩
                · have htsz : ¬ (128 : Int) < (t.size : Int) := by omega
                  go_wp2_with fail
                  go_roundg (x.txt.length - (j + 1))
                  case measure => omega
                  refine ⟨j + 1, by go_num, by omega, by omega, rfl, fun l hl hlj => ?_⟩
                  by_cases e : l = j
                  · subst e; rw [HTT.out]; omega
                  · exact HL.out l hl (by omega)
              · have hjz : ¬ (j : Int) < (x.txt.length : Int) := by omega
                have H1 := hid (HST.out fun t ht => by
                  obtain ⟨l, hl, rfl⟩ := List.mem_iff_getElem.1 ht
                  exact HL.out l hl (by omega))
                go_wp2_with fail
                go_roundg (d.length - (k + 1 + 1))
                case measure => omega
                refine ⟨k + 1 + 1, by go_num, by omega, by omega, by omega, hb.trans HGW.out, fun l hl => ?_⟩
                by_cases e : l = k + 1
                · subst e; exact H1.out
                · exact HJ.out l (by omega)
    · have hltz : ¬ (i : Int) < (d.length : Int) := by omega
      have H0 : Hid (r = true) := HR.out.symm.trans (may_yes (by rw [List.length_map]; omega) (fun j hj => HJ.out j (by rw [List.length_map] at hj; omega)))
      go_wp2_with fail
      go_ret
      exact ⟨ret_bool H0.out.symm, hb⟩

end Go.Proofs.YtmjchokacmbkoabDoor

/-
  The contract of Write.
-/
namespace Go.Proofs.YtmjchokacmbkoabDoor
open Go.RowKit

theorem room1 {l : List Value} {a : Value} {n : Nat} (h : l.length + 3 ≤ n) : (l ++ [a]).length + 1 ≤ n := by rw [List.length_append]; simp; omega
theorem room2 {l : List Value} {a b : Value} {n : Nat} (h : l.length + 3 ≤ n) : (l ++ [a] ++ [b]).length + 1 ≤ n := by rw [List.length_append, List.length_append]; simp; omega

set_option maxHeartbeats 4000000 in
set_option maxRecDepth 100000 in
theorem write_any (s : ByteArray) (w : World) (hp : PlainAt w) (hs : s.size ≤ 46912496118442) :
    Calls Tryd.prog 22 #[.string s] w fun e w' => e = .returned (.string ⟨(writeL s.data.toList).toArray⟩) ∧ Below w.heap.size w w' := by
  have HP := hid hp
  clear hp
  go_enter Tryd.func22, Tryd.ntmps22
  go_wp2_with fail
  go_loopg [4] s.size (fun g vi wr => ∃ i : Nat, vi = .int .i64 i ∧ i ≤ s.size ∧ s.size - i ≤ g ∧ Below w.heap.size w wr ∧ Lib.IsBuilder 65 5 w.heap.size w.heap.size (Lib.byteCells (writeL (s.data.toList.take i))) wr)
  case atStart => exact ⟨0, rfl, by omega, by omega, (Below.refl _ _).alloc (Nat.le_refl _) _, Lib.fresh_isBuilder _ _ _⟩
  case round =>
    obtain ⟨i, rfl, hi, hg, hb, hbu⟩ := hrel
    have HB := hid hbu
    clear hbu
    by_cases hlt : i < s.size
    · have hltz : (i : Int) < (s.size : Int) := by omega
      obtain ⟨c, hc⟩ : ∃ c, s[i] = c := ⟨_, rfl⟩
      have HPr : PlainAt wr := HP.out.on hb
      have hsz : (Lib.byteCells (writeL (s.data.toList.take i))).length + 3 ≤ 140737488355328 := by
        rw [Lib.byteCells_length]
        have := writeL_len (s.data.toList.take i)
        rw [List.length_take] at this
        omega
      have HS := hid hsz
      clear hsz
      have HW := hid (write_step s i hlt)
      rw [hc] at HW
      have HC := hid hc
      clear hc
      cases hpl : plainB (c.toNat : Int) with
      | true =>
        have HE : Hid (writeC c = [c]) := by show writeC c = [c]; unfold writeC; rw [if_pos hpl]
        go_wp2_with (first | (go_at_call 41; rw [HC.out]; refine (isPlain_any _ _ HPr).mono ?_; rintro e w1 ⟨rfl, hb1⟩) | (go_at_call 39; refine (wbyte_any w.heap.size w.heap.size _ _ _ (bld_on HB.out hb1) (Nat.le_trans (Nat.add_le_add_left (by decide) _) HS.out) (Nat.le_trans hb.size hb1.size)).mono ?_; rintro e w2 ⟨rfl, hbu2, hb2⟩))
        go_roundg (s.size - (i + 1))
        case measure => omega
        refine ⟨i + 1, by go_num, by omega, by omega, (hb.trans (hb1.mono hb.size)).trans hb2, ?_⟩
        rw [HW.out, HE.out]
        simpa [Lib.byteCells, HC.out] using hbu2
      | false =>
        have HE : Hid (writeC c = [37, hexd (c.toNat / 16), hexd (c.toNat % 16)]) := by show writeC c = _; unfold writeC; rw [if_neg (by rw [hpl]; simp)]
        have hc1 : (0 : Int) ≤ ↑c.toNat / 16 ∧ (↑c.toNat : Int) / 16 < 16 := by have := c.toNat_lt; omega
        have hc2 : (0 : Int) ≤ ↑c.toNat % 16 ∧ (↑c.toNat : Int) % 16 < 16 := by omega
        go_wp2_with (first | (go_at_call 41; rw [HC.out]; refine (isPlain_any _ _ HPr).mono ?_; rintro e w1 ⟨rfl, hb1⟩) | (go_at_call 39; refine (wbyte_any w.heap.size w.heap.size _ _ _ (bld_on HB.out hb1) (Nat.le_trans (Nat.add_le_add_left (by decide) _) HS.out) (Nat.le_trans hb.size hb1.size)).mono ?_; rintro e w2 ⟨rfl, hbu2, hb2⟩))
        go_wp2_with (go_at_call 39; refine (wbyte_any w.heap.size w.heap.size _ _ _ hbu2 (room1 HS.out) (Nat.le_trans hb.size (Nat.le_trans hb1.size hb2.size))).mono ?_; rintro e w3 ⟨rfl, hbu3, hb3⟩)
        go_wp2_with (go_at_call 39; refine (wbyte_any w.heap.size w.heap.size _ _ _ hbu3 (room2 HS.out) (Nat.le_trans hb.size (Nat.le_trans hb1.size (Nat.le_trans hb2.size hb3.size)))).mono ?_; rintro e w4 ⟨rfl, hbu4, hb4⟩)
        go_roundg (s.size - (i + 1))
        case measure => omega
        refine ⟨i + 1, by go_num, by omega, by omega, (((hb.trans (hb1.mono hb.size)).trans hb2).trans hb3).trans hb4, ?_⟩
        rw [HW.out, HE.out]
        rw [digit_at, digit_at] at hbu4
        simpa [Lib.byteCells] using hbu4
    · have hltz : ¬ (i : Int) < (s.size : Int) := by omega
      have he : s.data.toList.take i = s.data.toList := List.take_of_length_le (by simp; omega)
      have HB2 := HB.out
      rw [he] at HB2
      have HB3 := hid HB2
      clear HB2 he
      go_wp2_with (go_at_call 40; refine (Tryd.Builder_String_any _ _ _ _ HB3.out hb.size).mono ?_; rintro e w1 ⟨rfl, hb1⟩)
      go_ret
      exact ⟨rfl, hb.trans hb1⟩

end Go.Proofs.YtmjchokacmbkoabDoor

/-
  The contract of Print.
-/
namespace Go.Proofs.YtmjchokacmbkoabDoor
open Go.RowKit

def wordOf (n t : ByteArray) : ByteArray := n ++ ⟨#[61]⟩ ++ ⟨(writeL t.data.toList).toArray⟩
def wordsF (f : Fld) : List ByteArray := f.2.map (wordOf f.1)
def wordsL (fs : List Fld) : List ByteArray := fs.flatMap wordsF
def lineOf (fs : List Fld) : ByteArray := ⟨(Lib.join ((wordsL fs).map (·.data.toList)) [32]).toArray⟩

theorem wordsL_len {fs : List Fld} (h : ∀ f ∈ fs, fitsB f = true) (hl : fs.length ≤ 16) : (wordsL fs).length ≤ 128 := by
  have : ∀ l : List Fld, (∀ f ∈ l, fitsB f = true) → (wordsL l).length ≤ l.length * 8 := by
    intro l
    induction l with
    | nil => intro _; simp [wordsL]
    | cons f l ih =>
      intro hf
      have h1 := ih fun g hg => hf g (by simp [hg])
      have h2 := (fits_parts (hf f (by simp))).2.2.1
      have e : wordsL (f :: l) = wordsF f ++ wordsL l := rfl
      rw [e, List.length_append, List.length_cons, Nat.add_mul]
      have e2 : (wordsF f).length = f.2.length := by simp [wordsF]
      omega
  have := this fs h
  omega

theorem word_len {f : Fld} {t : ByteArray} (h : fitsB f = true) (ht : t ∈ f.2) : (wordOf f.1 t).size ≤ 417 := by
  obtain ⟨h1, _, _, h4, _⟩ := fits_parts h
  have h5 := h4 t ht
  have h6 := writeL_len t.data.toList
  have e : t.data.toList.length = t.size := by simp
  have e2 : (wordOf f.1 t).size = f.1.size + 1 + (writeL t.data.toList).length := by
    unfold wordOf
    rw [ByteArray.size_append, ByteArray.size_append]
    rfl
  omega

theorem words_len {fs : List Fld} (h : ∀ f ∈ fs, fitsB f = true) : ∀ x ∈ wordsL fs, x.size ≤ 417 := by
  intro x hx
  obtain ⟨f, hf, hx⟩ := List.mem_flatMap.1 hx
  obtain ⟨t, ht, rfl⟩ := List.mem_map.1 hx
  exact word_len (h f hf) ht

theorem join_two (l m : List UInt8) (ls : List (List UInt8)) : Lib.join (l :: m :: ls) [32] = l ++ 32 :: Lib.join (m :: ls) [32] := by simp [Lib.join, List.intercalate]

theorem join_len (ls : List (List UInt8)) (c : Nat) (h : ∀ l ∈ ls, l.length ≤ c) : (Lib.join ls [32]).length ≤ ls.length * (c + 1) := by
  induction ls with
  | nil => simp [Lib.join]
  | cons l ls ih =>
    have h1 := h l (by simp)
    have h2 := ih fun m hm => h m (by simp [hm])
    cases ls with
    | nil => simp [Lib.join]; omega
    | cons m ls =>
      rw [join_two, List.length_append, List.length_cons, List.length_cons, Nat.add_mul]
      omega

theorem join_any (ws : List ByteArray) (p : Option Addr) (cap : Nat) (w : World) {n0 : Nat} (h : OwnT n0 w (.slice p ws.length cap) ws) (hn : ws.length ≤ 128) (hs : ∀ x ∈ ws, x.size ≤ 417) :
    Calls Tryd.prog 32 #[.slice p ws.length cap, .string ⟨#[32]⟩] w fun e w' => e = .returned (.string ⟨(Lib.join (ws.map (·.data.toList)) [32]).toArray⟩) ∧ Below w.heap.size w w' := by
  rcases h.2 with ⟨_, h0⟩ | ⟨g, c, cur, hv, _, hg, hcap, _, hsz, htk⟩
  · obtain rfl := List.length_eq_zero_iff.1 h0
    refine (Tryd.strings_Join_none p cap _ w).mono ?_
    rintro e w' ⟨rfl, rfl⟩
    exact ⟨rfl, Below.refl _ _⟩
  · injection hv with hp hl hc
    subst hp
    subst hc
    refine (Tryd.strings_Join g 0 cap ws ⟨#[32]⟩ w (fun j x hj => ?_) (Array.getElem?_eq_some_iff.1 hg).1 (by omega) (by omega) ?_).mono ?_
    · have hjl := (List.getElem?_eq_some_iff.1 hj).1
      rw [Nat.zero_add, cell_of_row w g j cur _ _ hg, ← Array.getElem?_toList]
      have : (ws.map Value.string)[j]? = cur.toList[j]? := by rw [← htk, List.getElem?_take, if_pos (by omega)]
      rw [← this, List.getElem?_map, hj]; rfl
    · have h1 := join_len (ws.map (·.data.toList)) 417 (fun l hl => by
        obtain ⟨x, hx, rfl⟩ := List.mem_map.1 hl
        have := hs x hx
        simpa using this)
      rw [List.length_map] at h1
      have h2 : ws.length * 418 ≤ 128 * 418 := Nat.mul_le_mul_right _ hn
      show (Lib.join (ws.map (·.data.toList)) [32]).length ≤ _
      omega
    · rintro e w' ⟨rfl, hb⟩
      exact ⟨rfl, hb⟩

set_option maxHeartbeats 4000000 in
set_option maxRecDepth 100000 in
theorem print_no (v : Value) (d : List Fx) (w : World) (hv : IsXs w v d) (hf : FitX d) (hm : mayB (d.map Fx.fld) = false) :
    Calls Tryd.prog 15 #[v] w fun e w' => e = .returned (.tuple #[.string ⟨#[]⟩, .int .i64 3]) ∧ Grown w w' := by
  have HM := hid (may_any v d w hv hf)
  rw [hm] at HM
  clear hv
  go_enter Tryd.func15, Tryd.ntmps15
  go_wp2_with (first | (go_at_call 16; refine HM.out.mono ?_; rintro e w1 ⟨rfl, hg⟩))
  go_ret2
  exact ⟨rfl, hg⟩

set_option maxHeartbeats 4000000 in
set_option maxRecDepth 100000 in
theorem print_yes (v : Value) (d : List Fx) (w : World) (hp : PlainAt w) (hv : IsXs w v d) (hf : FitX d) (hm : mayB (d.map Fx.fld) = true) :
    Calls Tryd.prog 15 #[v] w fun e w' => e = .returned (.tuple #[.string (lineOf (d.map Fx.fld)), .int .i64 0]) ∧ Below w.heap.size w w' := by
  have HM := hid (may_any v d w hv hf)
  rw [hm] at HM
  have HP := hid hp
  obtain ⟨i0, hi, hz0, hz1, hz2⟩ := info_parts Tryd.infoStr
  have HI := hid hi
  obtain ⟨p, cap, rfl, hd, ht⟩ := hv
  have HT := hid ht
  have hl := hf.1
  unfold maxLen at hl
  have HD := hid hd
  have HMM := hid hm
  clear ht hf hd hm hi hp
  go_enter Tryd.func15, Tryd.ntmps15
  go_wp2_with (first | (go_at_call 16; refine HM.out.mono ?_; rintro e w1 ⟨rfl, hg⟩))
  go_loopg [4, 14] d.length (fun g vb vi wr => ∃ i : Nat, vi = .int .i64 i ∧ i ≤ d.length ∧ d.length - i ≤ g ∧ Below w.heap.size w wr ∧ OwnT w.heap.size wr vb (wordsL ((d.map Fx.fld).take i)))
  case atStart => exact ⟨0, rfl, by omega, by omega, hg.below, World.ownsRow_nil _ _ _ _⟩
  case round =>
    obtain ⟨i, rfl, hi, hgk, hb, hob⟩ := hrel
    by_cases hlt : i < d.length
    · have hltz : (i : Int) < (d.length : Int) := by omega
      have hiz : (0 : Int) ≤ i := by omega
      obtain ⟨b, off, rfl, hxs⟩ : ∃ b off, p = some ⟨b, off, none⟩ ∧ XsAt w b off d := by
        rcases HD.out with h | h
        · subst h; simp at hlt
        · exact h
      obtain ⟨c0, c1⟩ := hxs.kept hb i hlt
      have hxi : (d[i]).at w := HT.out _ (List.getElem_mem hlt)
      have hfi : fitsB (d[i]).fld = true := may_fits HMM.out _ (List.mem_map.2 ⟨_, List.getElem_mem hlt, rfl⟩)
      have htk : wordsL ((d.map Fx.fld).take (i + 1)) = wordsL ((d.map Fx.fld).take i) ++ wordsF (d[i]).fld := by
        unfold wordsL
        rw [List.take_succ_eq_append_getElem (by rw [List.length_map]; exact hlt), List.flatMap_append]
        simp
      obtain ⟨x, hx⟩ : ∃ x, d[i] = x := ⟨_, rfl⟩
      rw [hx] at c0 c1 hxi hfi htk
      obtain ⟨b2, off2, hp2, ht2⟩ : ∃ b off, x.p = some ⟨b, off, none⟩ ∧ ∀ i, (h : i < x.txt.length) → w.cell? ⟨b, off + i, none⟩ = some (.string x.txt[i]) := by
        rcases hxi with h | h
        · have := (fits_parts hfi).2.1
          simp only [Fx.fld] at this
          rw [h] at this; simp at this
        · exact h
      have hal : (wordsL ((d.map Fx.fld).take i)).length ≤ 128 := wordsL_len (fun f hf => may_fits HMM.out f (List.mem_of_mem_take hf)) (by rw [List.length_take]; have := (may_parts HMM.out).1; omega)
      obtain ⟨acc, hacc⟩ : ∃ acc, wordsL ((d.map Fx.fld).take i) = acc := ⟨_, rfl⟩
      rw [hacc] at hob htk hal
      obtain ⟨hn32, _, hn8, _⟩ := fits_parts hfi
      have HT2 := hid ht2
      have HFI := hid hfi
      have HTK := hid htk
      have HOB := hid hob
      have HB := hid hb
      have hsz := hb.size
      clear hxs hxi hx htk hacc hob hfi ht2
      unfold Fx.sl at c1
      rw [hp2] at c1
      clear hp2
      simp only [Fx.fld] at hn32 hn8
      go_wp2_with fail
      obtain ⟨F, hF⟩ : ∃ F, wr.heap.size = F := ⟨_, rfl⟩
      have hbox : (wr.alloc (.cells #[.string x.name, .slice (some ⟨b2, off2, none⟩) x.txt.length x.cap] 30)).heap[F]? = some (.cells #[.string x.name, .slice (some ⟨b2, off2, none⟩) x.txt.length x.cap] 30 (0, 0)) := by rw [← hF]; exact heap_alloc_new wr _
      have hbb : Below w.heap.size w (wr.alloc (.cells #[.string x.name, .slice (some ⟨b2, off2, none⟩) x.txt.length x.cap] 30)) := HB.out.alloc hsz _
      have hoo : OwnT w.heap.size (wr.alloc (.cells #[.string x.name, .slice (some ⟨b2, off2, none⟩) x.txt.length x.cap] 30)) u4 acc := HOB.out.on ((Below.refl _ _).alloc (Nat.le_refl _) _)
      have hwF : w.heap.size ≤ F := by omega
      rw [hF]
      go_loopg [4, 21] x.txt.length (fun g vb vj wr2 => ∃ j : Nat, vj = .int .i64 j ∧ j ≤ x.txt.length ∧ x.txt.length - j ≤ g ∧ Below w.heap.size w wr2 ∧ wr2.heap[F]? = some (.cells #[.string x.name, .slice (some ⟨b2, off2, none⟩) x.txt.length x.cap] 30 (0, 0)) ∧ OwnT w.heap.size wr2 vb (acc ++ (x.txt.take j).map (wordOf x.name)))
      case atStart => exact ⟨0, rfl, by omega, by omega, hbb, hbox, by simpa using hoo⟩
      case round =>
        obtain ⟨j, rfl, hj, hgj, hbj, hbxj, hobj⟩ := hrel
        by_cases hlj : j < x.txt.length
        · have hljz : (j : Int) < (x.txt.length : Int) := by omega
          have hjz : (0 : Int) ≤ j := by omega
          have t0 : wr.cell? ⟨b2, off2 + j, none⟩ = some (.string x.txt[j]) := (hbj.cell (p := ⟨b2, off2 + j, none⟩) (cell_block (HT2.out j hlj))).trans (HT2.out j hlj)
          have hts : x.txt[j].size ≤ 128 := (fits_parts HFI.out).2.2.2.1 _ (List.getElem_mem hlj)
          have hstep : (x.txt.take (j + 1)).map (wordOf x.name) = (x.txt.take j).map (wordOf x.name) ++ [wordOf x.name x.txt[j]] := by
            rw [List.take_succ_eq_append_getElem hlj, List.map_append]; simp
          obtain ⟨t, hte⟩ : ∃ t, x.txt[j] = t := ⟨_, rfl⟩
          rw [hte] at t0 hts hstep
          have q0 : wr.cell? ⟨F, 0, none⟩ = some (.string x.name) := by rw [Lib.cell_of_heap hbxj]; rfl
          have hFl : F < wr.heap.size := (Array.getElem?_eq_some_iff.1 hbxj).1
          obtain ⟨ac2, hac2⟩ : ∃ ac2, acc ++ (x.txt.take j).map (wordOf x.name) = ac2 := ⟨_, rfl⟩
          have hal2 : ac2.length ≤ 200 := by rw [← hac2]; simp; omega
          rw [hac2] at hobj
          have HW := hid (write_any t wr.drew (HP.out.on hbj.drew) (by omega))
          have HST := hid hstep
          have HOJ := hid hobj
          have HBJ := hid hbj
          have HBX := hid hbxj
          have HAC2 := hid hac2
          have hszj := hbj.size
          clear hte hstep hobj hbj hbxj hac2
          have hwl2 := writeL_len t.data.toList
          have hwl3 : t.data.toList.length = t.size := by simp
          obtain ⟨wt, hwt⟩ : ∃ wt : ByteArray, ⟨(writeL t.data.toList).toArray⟩ = wt := ⟨_, rfl⟩
          have hwts : wt.size ≤ 384 := by rw [← hwt]; show (writeL t.data.toList).toArray.size ≤ 384; rw [List.size_toArray]; omega
          rw [hwt] at HW
          obtain ⟨nq, hnq⟩ : ∃ nq : ByteArray, x.name ++ ⟨#[61]⟩ = nq := ⟨_, rfl⟩
          have hnqs : nq.size ≤ 33 := by rw [← hnq, ByteArray.size_append]; show x.name.size + 1 ≤ 33; omega
          obtain ⟨wd, hwd⟩ : ∃ wd : ByteArray, nq ++ wt = wd := ⟨_, rfl⟩
          have HWD : Hid (wordOf x.name t = wd) := by show _ = _; rw [← hwd, ← hnq, ← hwt]; rfl
          have hA : ∀ w, Sem.run Tryd.prog (Op.stringOp .add x.name ⟨#[61]⟩) w = .ok (.string nq) w := fun w => by rw [← hnq]; exact run_string_add_sum _ _ _ (by show x.name.size + 1 ≤ _; omega)
          have hB : ∀ w, Sem.run Tryd.prog (Op.stringOp .add nq wt) w = .ok (.string wd) w := fun w => by rw [← hwd]; exact run_string_add_sum _ _ _ (by omega)
          clear hwl2 hwl3 hwt hnq hwd hwts hnqs
          have KS : Hid (∀ w' : World, w'.heap[F]? = wr.heap[F]? → w'.cell? ⟨F, 0, none⟩ = some (.string x.name)) := fun w' e => by
            rw [Lib.cell_of_heap (e.trans HBX.out)]; rfl
          have KA : Hid (∀ w3 w4 : World, w3.heap[F]? = wr.heap[F]? → OwnT w.heap.size w3 u4 ac2 → w3.grownBy w4 u4.ownBlock → w4.heap[F]? = wr.heap[F]?) := fun w3 w4 e ho hg => by
            refine (hg.block F (Array.getElem?_eq_some_iff.1 (e.trans HBX.out)).1 fun e' => ?_).trans e
            rcases ho.2 with ⟨hv, _⟩ | ⟨g, c, cur, hv, _, hgb, _⟩
            · rw [hv] at e'; cases e'
            · rw [hv] at e'
              have : F = g := by simpa [Value.ownBlock] using e'
              subst this
              rw [e, HBX.out] at hgb
              injection hgb with hgb
              injection hgb with _ hgb
              exact absurd hgb (by decide)
          go_wp2_with fail
          go_region_held3 (fun w' => w'.cell? ⟨F, 0, none⟩ = some (.string x.name))
            (first | exact q0 | exact q2 | exact q3 | exact q4)
            (first | (go_at_call 22; refine HW.out.mono ?_; rintro o w2 ⟨rfl, hb2⟩; have e2 := hb2.block F hFl; have q2 := KS.out _ e2; have e3 := fun o => (Below.heap_alloc w2 o F (Nat.lt_of_lt_of_le hFl hb2.size)).trans e2; have e3w := e3 (.cells #[.string wd] 9); have q3 := KS.out _ e3w; have hbase3 : w.heap.size ≤ (w2.alloc (.cells #[.string wd] 9)).heap.size := (by have := hb2.size; simp at this ⊢; omega); have hown3 : OwnT w.heap.size (w2.alloc (.cells #[.string wd] 9)) u4 ac2 := (OwnT.on (w := wr.drew) HOJ.out hb2).on ((Below.refl _ _).alloc (Nat.le_refl _) _)) | (refine step_append_lies _ (by rfl) (.tmp 25) (.tmp 32) 28 (by rfl) w.heap.size 9 i0 (.string ⟨#[]⟩) 1 16 Tryd.underlying28 HI.out hz0 hz1 hz2 rfl (by decide) u4 ac2.length (ac2.map Value.string) (by rfl) (by assumption) _ 1 1 [.string wd] (by rfl) rfl (by intro j u hj; match j, hj with | 0, hj => simp at hj; subst hj; simp [Addr.add]) (by intro u hu; simp at hu; subst hu; rfl) (by decide) (by unfold maxLen; omega) (by omega) (by assumption) _ rfl ?_; intro g cap w4 hown4 hg4 hat4 hlt4; have e4 := KA.out _ _ (by assumption) (by assumption) hg4; have q4 := KS.out _ e4))
          have hbw : Below w.heap.size w w4 := (((HBJ.out.drew.trans (hb2.mono (by simpa using hszj))).alloc (by have := hb2.size; simp at this ⊢; omega) _).grown hg4 hbase3 (fun k hk => (World.ownsRow.lt hown3 k hk).1))
          have HF4 : Hid (Below w.heap.size w w4 ∧ w4.heap[F]? = some (.cells #[.string x.name, .slice (some ⟨b2, off2, none⟩) x.txt.length x.cap] 30 (0, 0)) ∧ OwnT w.heap.size w4 (.slice (some ⟨g, 0, none⟩) (ac2.length + 1) cap) (acc ++ (x.txt.take (j + 1)).map (wordOf x.name))) := by
            refine ⟨hbw, e4.trans HBX.out, ?_⟩
            have e5 : acc ++ (x.txt.take (j + 1)).map (wordOf x.name) = ac2 ++ [wd] := by rw [HST.out, ← List.append_assoc, HAC2.out, HWD.out]
            rw [e5]
            unfold OwnT
            rw [List.length_append, List.map_append]
            exact hown4
          clear hbw hown4 hg4 hown3 e4 e3w e3 e2 hb2 q4 q3 q2 hat4 hlt4
          go_wp2_with fail
          go_roundg (x.txt.length - (j + 1))
          case measure => omega
          exact ⟨j + 1, by go_num, by omega, by omega, HF4.out⟩
        · have hljz : ¬ (j : Int) < (x.txt.length : Int) := by omega
          have htk2 : x.txt.take j = x.txt := List.take_of_length_le (by omega)
          rw [htk2] at hobj
          have HOJ := hid hobj
          have HBJ := hid hbj
          clear hobj hbj htk2 hbxj
          go_wp2_with fail
          go_roundg (d.length - (i + 1))
          case measure => omega
          refine ⟨i + 1, by go_num, by omega, by omega, HBJ.out, ?_⟩
          rw [HTK.out]
          exact HOJ.out
    · have hltz : ¬ (i : Int) < (d.length : Int) := by omega
      have htk2 : (d.map Fx.fld).take i = d.map Fx.fld := List.take_of_length_le (by rw [List.length_map]; omega)
      rw [htk2] at hob
      have hwn : (wordsL (d.map Fx.fld)).length ≤ 128 := wordsL_len (may_fits HMM.out) (may_parts HMM.out).1
      have hws := words_len (may_fits HMM.out)
      have HLN : Hid (lineOf (d.map Fx.fld) = ⟨(Lib.join ((wordsL (d.map Fx.fld)).map (·.data.toList)) [32]).toArray⟩) := rfl
      obtain ⟨ws, hwe⟩ : ∃ ws, wordsL (d.map Fx.fld) = ws := ⟨_, rfl⟩
      rw [hwe] at hob hwn hws HLN
      clear htk2 hwe
      obtain ⟨p4, cap4, rfl⟩ : ∃ p cap, u4 = .slice p ws.length cap := by
        rcases hob.2 with ⟨hv, h0⟩ | ⟨g, cap, cur, hv, _⟩
        · exact ⟨none, 0, by rw [hv, h0]⟩
        · exact ⟨_, _, hv⟩
      have HJ := hid (join_any ws p4 cap4 wr hob hwn hws)
      clear hob hws hwn
      go_wp2_with (first | (go_at_call 32; refine HJ.out.mono ?_; rintro e w2 ⟨rfl, hb2⟩))
      go_ret2
      rw [HLN.out]
      exact ⟨rfl, hb.trans (hb2.mono hb.size)⟩

end Go.Proofs.YtmjchokacmbkoabDoor

/-
  The contract of Size.
-/
namespace Go.Proofs.YtmjchokacmbkoabDoor
open Go.RowKit

def sizeN (fs : List Fld) : Nat := if mayB fs = true then (encL fs).length else 0

set_option maxHeartbeats 1000000 in
theorem size_any (v : Value) (d : List Fx) (w : World) (hv : IsXs w v d) (hf : FitX d) :
    Calls Tryd.prog 17 #[v] w fun e w' => e = .returned (.int .i64 (sizeN (d.map Fx.fld))) ∧ Below w.heap.size w w' := by
  cases hm : mayB (d.map Fx.fld) with
  | false =>
    have H0 : Hid (sizeN (d.map Fx.fld) = 0) := by show _ = _; unfold sizeN; rw [hm]; rfl
    have HE := hid (encode_no v d w hv hf hm)
    clear hv hm
    go_enter Tryd.func17, Tryd.ntmps17
    go_wp2_with (first | (go_at_call 18; refine HE.out.mono ?_; rintro e w1 ⟨rfl, hg⟩))
    go_ret
    rw [H0.out]
    exact ⟨rfl, hg.below⟩
  | true =>
    have H0 : Hid (sizeN (d.map Fx.fld) = (encL (d.map Fx.fld)).length) := by show _ = _; unfold sizeN; rw [hm]; rfl
    have HE := hid (encode_yes v d w hv hf hm)
    clear hv hm
    generalize sizeN (d.map Fx.fld) = r at H0
    go_enter Tryd.func17, Tryd.ntmps17
    go_wp2_with (first | (go_at_call 18; refine HE.out.mono ?_; rintro e w1 ⟨⟨u, rfl, ho⟩, hg⟩; obtain ⟨g, cap, rfl, _, _⟩ := World.ownsRow.form ho (by simp [encL])))
    go_ret
    rw [H0.out]
    exact ⟨rfl, hg⟩

end Go.Proofs.YtmjchokacmbkoabDoor

/-
  The chapter's examples: the plain answers.
-/
namespace Go.Proofs.YtmjchokacmbkoabDoor
open Go.RowKit Go.Sort Go.Lib

def fixA : List Fld := [(⟨#[98]⟩, [⟨#[120]⟩]), (⟨#[97]⟩, [⟨#[121]⟩]), (⟨#[98]⟩, [⟨#[122]⟩])]
def fixN : List Fld := [(⟨#[97]⟩, [⟨#[121]⟩]), (⟨#[98]⟩, [⟨#[120]⟩, ⟨#[122]⟩])]
def fixE : List Fld := [(⟨#[97]⟩, [⟨#[120]⟩, ⟨#[]⟩])]
def fixP : List Fld := [(⟨#[98]⟩, [⟨#[49]⟩]), (⟨#[97]⟩, [⟨#[50]⟩])]
def fixQ : List Fld := [(⟨#[97]⟩, [⟨#[50]⟩]), (⟨#[98]⟩, [⟨#[49]⟩])]

theorem ltN_eq (a b : ByteArray) : ltN a b = ltB a b := by
  unfold ltN ltB
  rw [Lib.toList_data, Lib.toList_data, cb_less]

theorem mayB_eq (fs : List Fld) : mayB fs = (decide (fs.length ≤ 16) && (List.range fs.length).all fun i => fitsB (fs.getD i default) && (decide (i = 0) || ltB (fs.getD (i - 1) default).1 (fs.getD i default).1)) := by
  unfold mayB stepOk
  simp only [ltN_eq]

theorem fixA_mis : fixA.any misB = false := by decide
theorem fixA_norm : normF fixA = fixN := by decide
theorem fixN_bare : fixN.any bareB = false := by decide
theorem fixN_may : mayB fixN = true := by rw [mayB_eq]; decide
theorem fixN_line : lineOf fixN = ⟨#[97, 61, 121, 32, 98, 61, 120, 32, 98, 61, 122]⟩ := by decide
theorem fixE_may : mayB fixE = true := by decide
theorem fixE_enc : encL fixE = [1, 1, 97, 2, 1, 120, 0] := by decide
theorem fixE_dec : decodeO [1, 1, 97, 2, 1, 120, 0] = some fixE := by decide
theorem fixE_size : sizeN fixE = 7 := by decide
theorem fixP_mis : fixP.any misB = false := by decide
theorem fixP_norm : normF fixP = fixQ := by decide
theorem fixQ_bare : fixQ.any bareB = false := by decide
theorem fixQ_may : mayB fixQ = true := by rw [mayB_eq]; decide
theorem fix_write : writeL [97, 32, 98] = [97, 37, 50, 48, 98] := by decide
theorem fix_texts : textsOf fixN ⟨#[98]⟩ = [⟨#[120]⟩, ⟨#[122]⟩] := by decide
theorem fix_read : readL [97, 37, 50, 48, 98] = some [97, 32, 98] := by
  rw [readL_some (c := 97) (n := 1) (by decide)]
  show (readL [37, 50, 48, 98]).map _ = _
  rw [readL_some (c := 32) (n := 3) (by decide)]
  show ((readL [98]).map _).map _ = _
  rw [readL_some (c := 98) (n := 1) (by decide)]
  show (((readL []).map _).map _).map _ = _
  rw [readL_nil]
  rfl
theorem fix_split : splitL [98, 61, 49, 32, 97, 61, 50] = [[98, 61, 49], [97, 61, 50]] := by
  rw [splitL_yes (i := 3) (by decide)]
  show [98, 61, 49] :: splitL [97, 61, 50] = _
  rw [splitL_no (by decide)]
theorem fix_one (c : UInt8) (h : firstP [c] = some (c, 1)) : readL [c] = some [c] := by
  rw [readL_some h]
  show (readL []).map _ = _
  rw [readL_nil]
  rfl
theorem fix_words : fieldsW (splitL [98, 61, 49, 32, 97, 61, 50]) = some fixP := by
  rw [fix_split]
  have h1 : wordO [98, 61, 49] = some ([98], [49]) := by
    unfold wordO
    rw [if_neg (by decide), show (Lib.indexByte [98, 61, 49] 61).toNat = 1 by decide]
    show (readL [49]).map _ = _
    rw [fix_one 49 (by decide)]; rfl
  have h2 : wordO [97, 61, 50] = some ([97], [50]) := by
    unfold wordO
    rw [if_neg (by decide), show (Lib.indexByte [97, 61, 50] 61).toNat = 1 by decide]
    show (readL [50]).map _ = _
    rw [fix_one 50 (by decide)]; rfl
  simp only [fieldsW, h1, h2]
  rfl

end Go.Proofs.YtmjchokacmbkoabDoor

/-
  The contract of the reference's Norm.
-/
namespace Go.Proofs.YtmjchokacmbkoabDoor
open Go.RowKit Go.Lib

def RnSt (w : World) (G : List Fld) (k : Nat) (v : Value) (wr : World) : Prop :=
  ∃ dr, OwnXs w.heap.size wr v dr ∧ dr.map Fx.fld = (G.take (min k 17)).map capF ∧ Below w.heap.size w wr

def RnAns (N : Nat) (fs : List Fld) (e : Ending) (w' : World) : Prop :=
  (fs.any misB = true ∧ e = .returned (.tuple #[.slice none 0 0, .int .i64 2])) ∨
    (fs.any misB = false ∧
     (((normF fs).any bareB = true ∧ e = .returned (.tuple #[.slice none 0 0, .int .i64 3])) ∨
      ((normF fs).any bareB = false ∧ mayB (normF fs) = false ∧ e = .returned (.tuple #[.slice none 0 0, .int .i64 5])) ∨
      ((normF fs).any bareB = false ∧ mayB (normF fs) = true ∧ ∃ u o, e = .returned (.tuple #[u, .int .i64 0]) ∧ OwnXs N w' u o ∧ o.map Fx.fld = normF fs)))
def RnPost (w : World) (fs : List Fld) (e : Ending) (w' : World) : Prop := RnAns w.heap.size fs e w' ∧ Below w.heap.size w w'

theorem mem_txtOf {fs : List Fld} {c t : ByteArray} (h : t ∈ txtOf fs c) : ∃ f ∈ fs, t ∈ f.2 := by
  unfold txtOf at h
  obtain ⟨f, hf, ht⟩ := List.mem_flatMap.1 h
  exact ⟨f, (List.mem_filter.1 hf).1, ht⟩

theorem txtOf_len (fs : List Fld) (c : ByteArray) : (txtOf fs c).length ≤ totF fs := by
  unfold txtOf totF
  induction fs with
  | nil => simp
  | cons f fs ih =>
    rw [List.map_cons, List.sum_cons]
    by_cases e : f.1 = c
    · rw [List.filter_cons_of_pos (by simp [e]), List.flatMap_cons, List.length_append]; omega
    · rw [List.filter_cons_of_neg (by simp [e])]; omega

theorem totF_take (fs : List Fld) (i : Nat) : totF (fs.take i) ≤ totF fs := by
  conv => rhs; rw [← List.take_append_drop i fs, totF_append]
  omega

theorem txtOf_step {d : List Fx} {i : Nat} (h : i < d.length) (c : ByteArray) : txtOf ((d.map Fx.fld).take (i + 1)) c = txtOf ((d.map Fx.fld).take i) c ++ if (d[i]).name = c then (d[i]).txt else [] := by
  rw [List.take_succ_eq_append_getElem (by simpa using h), txtOf_snoc]
  simp [Fx.fld]

theorem scanN_step {d : List Fx} {i : Nat} (h : i < d.length) (last : ByteArray) : scanN last ((d.map Fx.fld).take (i + 1)) =
    if ltB last (d[i]).name && (decide ((scanN last ((d.map Fx.fld).take i)).size = 0) || ltB (d[i]).name (scanN last ((d.map Fx.fld).take i))) then (d[i]).name else scanN last ((d.map Fx.fld).take i) := by
  rw [List.take_succ_eq_append_getElem (by simpa using h), scanN_snoc]
  simp [scanStep, Fx.fld]

theorem mis_all {d : List Fx} (h : ∀ j, (h : j < d.length) → fieldB (d[j]).name.data.toList = true) : (d.map Fx.fld).any misB = false := by
  rw [List.any_eq_false]
  intro f hf
  obtain ⟨x, hx, rfl⟩ := List.mem_map.1 hf
  obtain ⟨j, hj, rfl⟩ := List.mem_iff_getElem.1 hx
  have := h j hj
  simp [misB, Fx.fld, this]

theorem field_ne {l : ByteArray} (h : fieldB l.data.toList = true) : l.size ≠ 0 := by
  intro e
  have : l.data.toList = [] := List.length_eq_zero_iff.1 (by simpa using e)
  rw [this] at h
  revert h
  decide

theorem take9_more {T a b : List ByteArray} (h : 9 ≤ (T ++ a).length) : (T ++ (a ++ b)).take 9 = (T ++ a).take 9 := by
  rw [← List.append_assoc, List.take_append_of_le_length h]

theorem any_snoc {G : List Fld} {k : Nat} (h : k < G.length) : (G.take (k + 1)).any bareB = ((G.take k).any bareB || bareB G[k]) := by
  rw [List.take_succ_eq_append_getElem h, List.any_append]
  simp

theorem cap_snoc {G : List Fld} {k : Nat} (h : k < G.length) (hk : k < 17) : (G.take (min (k + 1) 17)).map capF = (G.take (min k 17)).map capF ++ [capF G[k]] := by
  rw [Nat.min_eq_left (by omega), Nat.min_eq_left (by omega), List.take_succ_eq_append_getElem h, List.map_append]
  rfl

theorem lastOf_succ {G : List Fld} {k : Nat} (h : k < G.length) : lastOf G (k + 1) = (G[k]).1 := by
  unfold lastOf
  rw [if_neg (by omega), Nat.add_sub_cancel, List.getD_eq_getElem?_getD, List.getElem?_eq_getElem h]
  rfl

/-- What the reference holds at its end is small. -/
theorem rn_fit {d dr : List Fx} {k : Nat} (hf : FitX d) (h : dr.map Fx.fld = ((normF (d.map Fx.fld)).take (min k 17)).map capF) : FitX dr := by
  have hg := normF_groups (d.map Fx.fld)
  have hl : dr.length ≤ 17 := by
    have := congrArg List.length h
    rw [List.length_map, List.length_map, List.length_take] at this
    omega
  refine ⟨by unfold maxLen; omega, fun x hx => ?_⟩
  have hm : x.fld ∈ ((normF (d.map Fx.fld)).take (min k 17)).map capF := by rw [← h]; exact List.mem_map.2 ⟨x, hx, rfl⟩
  obtain ⟨g, hgm, e⟩ := List.mem_map.1 hm
  have hgm := List.mem_of_mem_take hgm
  have e1 : x.name = g.1 := (congrArg Prod.fst e).symm
  have e2 : x.txt = g.2.take 9 := (congrArg Prod.snd e).symm
  obtain ⟨f, hfm, ef⟩ := (hg.names g.1).1 ⟨g, hgm, rfl⟩
  obtain ⟨y, hy, rfl⟩ := List.mem_map.1 hfm
  refine ⟨?_, ?_, fun t ht => ?_⟩
  · show x.name.size ≤ maxLen
    rw [e1, ← ef]; exact (hf.2 y hy).1
  · show x.txt.length ≤ maxLen
    rw [e2, List.length_take]; unfold maxLen; omega
  · have ht : t ∈ x.txt := ht
    rw [e2] at ht
    have ht := List.mem_of_mem_take ht
    rw [hg.texts g hgm] at ht
    obtain ⟨f', hf', ht'⟩ := mem_txtOf ht
    obtain ⟨z, hz, rfl⟩ := List.mem_map.1 hf'
    exact (hf.2 z hz).2.2 t ht'

end Go.Proofs.YtmjchokacmbkoabDoor

/-
  The contract of the reference's Norm: the walk.
-/
namespace Go.Proofs.YtmjchokacmbkoabDoor
open Go.RowKit Go.Lib

theorem less_of {a b : ByteArray} {c : Bool} (h : ltB a b = c) : Op.bytesLess a.toList b.toList = c := by
  rw [← h, ← ltN_eq]; rfl

theorem eq_false {a b : ByteArray} (h : a ≠ b) : (a.toList == b.toList) = false := by
  rw [Lib.toList_data, Lib.toList_data, beq_eq_false_iff_ne]
  exact fun e => h (ba_eq e)
theorem eq_true {a b : ByteArray} (h : a = b) : (a.toList == b.toList) = true := by rw [h]; simp

theorem empty_of {a : ByteArray} (h : a.size = 0) : a.toList.isEmpty = true := by
  rw [Lib.toList_data]
  have : a.data.toList = [] := List.length_eq_zero_iff.1 (by simpa using h)
  rw [this]; rfl
theorem nonempty_of {a : ByteArray} (h : a.size ≠ 0) : a.toList.isEmpty = false := by
  rw [Lib.toList_data]
  cases e : a.data.toList with
  | nil => exact absurd (by simpa using congrArg List.length e) h
  | cons _ _ => rfl

set_option maxHeartbeats 8000000 in
set_option maxRecDepth 100000 in
theorem rnorm_any (v : Value) (d : List Fx) (w : World) (hv : IsXs w v d) (hf : FitX d) (hl : d.length * 40 ≤ 140737488355328) (htot : totF (d.map Fx.fld) * 16 ≤ 140737488355328) :
    Calls Tryd.prog 13 #[v] w fun e w' => RnPost w (d.map Fx.fld) e w' := by
  obtain ⟨i0, hi0, hz0, hz1, hz2⟩ := info_parts Tryd.infoStr
  obtain ⟨j0, hj0, hy0, hy1, hy2⟩ := info_parts Tryd.infoFld
  have HI := hid hi0
  have HJ := hid hj0
  obtain ⟨p, cap, rfl, hd, ht⟩ := hv
  have HD := hid hd
  have HT := hid ht
  have HF := hid hf
  have hll : d.length ≤ 3600000000000 := by omega
  have HTOT := hid htot
  clear hi0 hj0 hd ht hf htot hl
  go_enter Tryd.func13, Tryd.ntmps13
  go_wp2_with fail
  go_loopg [4] d.length (fun g vi wr => ∃ i : Nat, vi = .int .i64 i ∧ i ≤ d.length ∧ d.length - i ≤ g ∧ w = wr ∧ Hid (∀ j, (h : j < d.length) → j < i → fieldB (d[j]).name.data.toList = true))
  case atStart => exact ⟨0, rfl, by omega, by omega, rfl, fun j _ h => by omega⟩
  case round =>
  obtain ⟨i, rfl, hi, hgk, rfl, HOK⟩ := hrel
  by_cases hlt : i < d.length
  · have hltz : (i : Int) < (d.length : Int) := by omega
    have hiz : (0 : Int) ≤ i := by omega
    obtain ⟨b, off, rfl, hxs⟩ : ∃ b off, p = some ⟨b, off, none⟩ ∧ XsAt w b off d := by
      rcases HD.out with h | h
      · subst h; simp at hlt
      · exact h
    have c0 := (hxs i hlt).1
    have HFX : Hid (∀ W, Calls Tryd.prog 30 #[.string (d[i]).name] W fun e w' => e = .returned (.bool (fieldB (d[i]).name.data.toList)) ∧ w' = W) := fun W => rfield_any _ W (HF.out.2 _ (List.getElem_mem hlt)).1
    have HM : Hid (fieldB (d[i]).name.data.toList = false → (d.map Fx.fld).any misB = true) := fun h => by
      rw [List.any_eq_true]
      exact ⟨(d[i]).fld, List.mem_map.2 ⟨_, List.getElem_mem hlt, rfl⟩, by simp [misB, Fx.fld, h]⟩
    have HS : Hid (fieldB (d[i]).name.data.toList = true → ∀ j, (h : j < d.length) → j < i + 1 → fieldB (d[j]).name.data.toList = true) := fun h j hj h2 => by
      by_cases e : j = i
      · subst e; exact h
      · exact HOK.out j hj (by omega)
    generalize (d[i]).name = nm at c0 HFX HM HS
    clear hxs HOK
    cases hfx : fieldB nm.data.toList with
    | false =>
      rw [hfx] at HFX
      have H0 := hid (HM.out hfx)
      clear hfx HM HS
      go_wp2_with (first | (go_at_call 30; refine (HFX.out _).mono ?_; rintro e w1 ⟨rfl, rfl⟩))
      go_ret2
      exact ⟨Or.inl ⟨H0.out, rfl⟩, Below.refl _ _⟩
    | true =>
      rw [hfx] at HFX
      have H0 := hid (HS.out hfx)
      clear hfx HM HS
      go_wp2_with (first | (go_at_call 30; refine (HFX.out _).mono ?_; rintro e w1 ⟨rfl, rfl⟩))
      go_roundg (d.length - (i + 1))
      case measure => omega
      case rel => exact ⟨i + 1, by go_num, by omega, by omega, rfl, H0⟩
  have hltz : ¬ (i : Int) < (d.length : Int) := by omega
  have HMIS := hid (mis_all fun j hj => HOK.out j hj (by omega))
  have hne : ∀ f ∈ d.map Fx.fld, f.1.size ≠ 0 := fun f hf => by
    obtain ⟨x, hx, rfl⟩ := List.mem_map.1 hf
    obtain ⟨j, hj, rfl⟩ := List.mem_iff_getElem.1 hx
    exact field_ne (HOK.out j hj (by omega))
  have hgr := normF_groups (d.map Fx.fld)
  obtain ⟨G, hG⟩ : ∃ G, normF (d.map Fx.fld) = G := ⟨_, rfl⟩
  rw [hG] at hgr
  have HGR := hid hgr
  have HNE := hid hne
  have HGE := hid hG
  clear hgr hne hG HOK hgk hi hlt
  have ST0 : Hid (RnSt w G 0 (.slice none 0 0) w) := ⟨[], ⟨World.ownsRow_nil _ _ _ _, fun x hx => by simp at hx⟩, by simp, Below.refl _ _⟩
  go_wp2_with fail
  go_loopg [5, 6, 7, 8] G.length (fun g v5 v6 v7 v8 ws => ∃ k : Nat, k ≤ G.length ∧ G.length - k ≤ g ∧ v6 = .bool ((G.take k).any bareB) ∧ v7 = .bool (decide (16 < k)) ∧ v8 = .string (lastOf G k) ∧ RnSt w G k v5 ws)
  case atStart => exact ⟨0, by omega, by omega, by simp, rfl, rfl, ST0.out⟩
  case round =>
  clear ST0
  obtain ⟨k, hk, hgk, rfl, rfl, rfl, dr, hox, hdm, hbw⟩ := hrel
  have HSN := hid (scan_next HGR.out HNE.out k hk)
  have hkeep : ∀ j, (h : j < d.length) → ∃ b off, p = some ⟨b, off, none⟩ ∧ (∀ W, Below w.heap.size w W → W.cell? ⟨b, off + j * 2, none⟩ = some (.string (d[j]).name) ∧ W.cell? ⟨b, off + j * 2 + 1, none⟩ = some (.slice (d[j]).p (d[j]).txt.length (d[j]).cap)) := fun j hj => by
    rcases HD.out with h | ⟨b, off, rfl, hxs⟩
    · subst h; simp at hj
    · exact ⟨b, off, rfl, fun W hW => hxs.kept hW j hj⟩
  have HKP := hid hkeep
  have HOX := hid hox
  have HDM := hid hdm
  have HBW := hid hbw
  have hszw := hbw.size
  clear hox hdm hbw hkeep
  obtain ⟨B6, hB6⟩ : ∃ B, (G.take k).any bareB = B := ⟨_, rfl⟩
  obtain ⟨last, hlast⟩ : ∃ l, lastOf G k = l := ⟨_, rfl⟩
  rw [hB6, hlast]
  rw [hlast] at HSN
  have HB6 := hid hB6
  clear hB6 hlast
  go_wp2_with fail
  go_loopg [9, 10] d.length (fun g vn vi ws => ∃ i : Nat, vi = .int .i64 i ∧ i ≤ d.length ∧ d.length - i ≤ g ∧ vn = .string (scanN last ((d.map Fx.fld).take i)) ∧ wr = ws)
  case atStart => exact ⟨0, rfl, by omega, by omega, by simp [scanN], rfl⟩
  case round =>
  obtain ⟨i, rfl, hi, hgi, rfl, rfl⟩ := hrel
  by_cases hlt : i < d.length
  · have hltz : (i : Int) < (d.length : Int) := by omega
    have hiz : (0 : Int) ≤ i := by omega
    obtain ⟨b, off, rfl, hc⟩ := HKP.out i hlt
    have c0 := (hc _ HBW.out).1
    have HST := hid (scanN_step hlt last)
    generalize scanN last ((d.map Fx.fld).take i) = nx at HST ⊢
    generalize (d[i]).name = nm at c0 HST
    clear hc
    cases h1 : ltB last nm with
    | false =>
      rw [h1] at HST
      simp only [Bool.false_and, Bool.false_eq_true, if_false] at HST
      rcases ltB_cases nm last with h2 | h2 | h2
      · have f1 := less_of h2
        clear h1 h2
        go_wp2_with fail
        go_roundg (d.length - (i + 1))
        case measure => omega
        case rel => exact ⟨i + 1, by go_num, by omega, by omega, by rw [HST.out], rfl⟩
      · have f1 := eq_true h2
        have f0 : Op.bytesLess nm.toList last.toList = false := less_of (by rw [h2]; exact ltB_irrefl _)
        clear h1 h2
        go_wp2_with fail
        go_roundg (d.length - (i + 1))
        case measure => omega
        case rel => exact ⟨i + 1, by go_num, by omega, by omega, by rw [HST.out], rfl⟩
      · rw [h1] at h2; cases h2
    | true =>
      have f0 := less_of (ltB_asymm h1)
      have f1 := eq_false (Ne.symm (ltB_ne h1))
      rw [h1] at HST
      simp only [Bool.true_and] at HST
      clear h1
      by_cases h2 : nx.size = 0
      · have f2 := empty_of h2
        rw [decide_eq_true h2] at HST
        simp only [Bool.true_or, if_true] at HST
        clear h2
        go_wp2_with fail
        go_roundg (d.length - (i + 1))
        case measure => omega
        case rel => exact ⟨i + 1, by go_num, by omega, by omega, by rw [HST.out], rfl⟩
      · have f2 := nonempty_of h2
        rw [decide_eq_false h2] at HST
        simp only [Bool.false_or] at HST
        clear h2
        cases h3 : ltB nm nx with
        | true =>
          have f3 := less_of h3
          rw [h3, if_pos rfl] at HST
          clear h3
          go_wp2_with fail
          go_roundg (d.length - (i + 1))
          case measure => omega
          case rel => exact ⟨i + 1, by go_num, by omega, by omega, by rw [HST.out], rfl⟩
        | false =>
          have f3 := less_of h3
          rw [h3, if_neg Bool.false_ne_true] at HST
          clear h3
          go_wp2_with fail
          go_roundg (d.length - (i + 1))
          case measure => omega
          case rel => exact ⟨i + 1, by go_num, by omega, by omega, by rw [HST.out], rfl⟩
  have hltz2 : ¬ (i : Int) < (d.length : Int) := by omega
  rw [List.take_of_length_le (show (d.map Fx.fld).length ≤ i by simp; omega)]
  rw [HSN.out]
  clear hlt hi hgi HSN
  by_cases hkl : k < G.length
  · rw [dif_pos hkl]
    have hsz0 := scan_size HGR.out HNE.out hkl
    have hgt := HGR.out.texts _ (List.getElem_mem hkl)
    have HAN := hid (any_snoc hkl)
    have HCS := hid (fun h => cap_snoc hkl h)
    have HLS := hid (lastOf_succ hkl)
    obtain ⟨⟨nm, gt⟩, hgk2⟩ : ∃ g, G[k] = g := ⟨_, rfl⟩
    rw [hgk2] at hsz0 hgt HAN HCS HLS
    rw [hgk2]
    have hnz := nonempty_of hsz0
    have HGT : Hid (gt = txtOf (d.map Fx.fld) nm) := hgt
    clear hsz0 hgt hgk2
    show Code.wp _ _ _ _ _
    simp only
    obtain ⟨W0, rfl⟩ : ∃ W0, W0 = wr := ⟨_, rfl⟩
    obtain ⟨N0, hN0⟩ : ∃ n, W0.heap.size = n := ⟨_, rfl⟩
    have HN0 := hid hN0
    have IN0 : Hid (OwnT N0 W0 (.slice none 0 0) [] ∧ Below N0 W0 W0) := ⟨World.ownsRow_nil _ _ _ _, Below.refl _ _⟩
    have KPW : Hid (∀ W, Below N0 W0 W → Below w.heap.size w W ∧ N0 ≤ W.heap.size) := fun W h => by
      rw [← hN0] at h ⊢
      exact ⟨HBW.out.trans (h.mono hszw), h.size⟩
    clear hN0
    go_wp2_with fail
    go_loopg [11, 12, 13] d.length (fun g vl vn vi ws => ∃ (i n : Nat) (ts : List ByteArray), vi = .int .i64 i ∧ vn = .int .i64 n ∧ i ≤ d.length ∧ d.length - i ≤ g ∧ Hid (OwnT N0 ws vl ts) ∧ Hid (ts = (txtOf ((d.map Fx.fld).take i) nm).take 9) ∧ Hid (n = (txtOf ((d.map Fx.fld).take i) nm).length) ∧ Hid (Below N0 W0 ws))
    case atStart => exact ⟨0, 0, [], rfl, rfl, by omega, by omega, IN0.out.1, (show Hid _ from by simp [Hid, txtOf]), (show Hid _ from by simp [Hid, txtOf]), IN0.out.2⟩
    case round =>
    clear IN0
    obtain ⟨i, n, ts, rfl, rfl, hi, hgi, HOT, HTS, HN, HBS⟩ := hrel
    have hnn : n ≤ 9000000000000 := by
      have h1 := HN.out
      have h2 := txtOf_len ((d.map Fx.fld).take i) nm
      have h3 := totF_take (d.map Fx.fld) i
      have h4 := HTOT.out
      omega
    by_cases hlt : i < d.length
    · have hltz : (i : Int) < (d.length : Int) := by omega
      have hiz : (0 : Int) ≤ i := by omega
      obtain ⟨hbw, hN0w⟩ := KPW.out _ HBS.out
      obtain ⟨b, off, rfl, hc⟩ := HKP.out i hlt
      obtain ⟨c0, c1⟩ := hc _ hbw
      have HKC := hid hc
      have HTX := hid (txtOf_step hlt nm)
      have hxt := (HT.out _ (List.getElem_mem hlt)).kept hbw
      have hxl : (d[i]).txt.length ≤ 9000000000000 := by
        have h1 := totF_mem (List.mem_map.2 ⟨_, List.getElem_mem hlt, rfl⟩ : (d[i]).fld ∈ d.map Fx.fld)
        have h4 := HTOT.out
        have : (d[i]).fld.2.length = (d[i]).txt.length := rfl
        omega
      have HXT0 := hid (HT.out _ (List.getElem_mem hlt))
      obtain ⟨x, hx⟩ : ∃ x, d[i] = x := ⟨_, rfl⟩
      rw [hx] at c0 c1 HTX hxt hxl HKC HXT0
      obtain ⟨xn, xp, xc, xt⟩ := x
      simp only at c0 c1 HTX hxl HKC
      have HXT := hid hxt
      clear hc hx hxt hbw
      by_cases hnm : xn = nm
      · have hq := eq_true hnm
        rw [if_pos hnm] at HTX
        have HN2 : Hid (n + xt.length = (txtOf ((d.map Fx.fld).take (i + 1)) nm).length) := by show _ = _; rw [HTX.out, List.length_append, ← HN.out]
        obtain ⟨T0, hT0⟩ : ∃ T, txtOf ((d.map Fx.fld).take i) nm = T := ⟨_, rfl⟩
        rw [hT0] at HTX HTS
        clear hnm hT0 HN
        by_cases hx0 : xt.length = 0
        · have hx00 : xt = [] := List.length_eq_zero_iff.1 hx0
          subst hx00
          rw [List.append_nil] at HTX
          have HT2 : Hid (ts = (txtOf ((d.map Fx.fld).take (i + 1)) nm).take 9) := by show _ = _; rw [HTX.out]; exact HTS.out
          clear hx0 HXT HXT0
          go_wp2_with fail
          refine wp_loop_rounds 1 ?_
          rw [rounds_succ]
          go_wp2_with fail
          go_roundg (d.length - (i + 1))
          case measure => omega
          case rel => exact ⟨i + 1, n, ts, by go_num, by first | rfl | go_num, by omega, by omega, HOT, HT2, HN2, HBS⟩
        · obtain ⟨bt, ot, hpt, hct⟩ : ∃ b off, xp = some ⟨b, off, none⟩ ∧ ∀ i, (h : i < xt.length) → w.cell? ⟨b, off + i, none⟩ = some (.string xt[i]) := by
            rcases HXT0.out with h | h
            · exact absurd (by rw [show xt = [] from h]; rfl) hx0
            · exact h
          subst hpt
          have HCT : Hid (∀ W, Below w.heap.size w W → ∀ i, (h : i < xt.length) → W.cell? ⟨bt, ot + i, none⟩ = some (.string xt[i])) := fun W hW i h => (hW.cell (p := ⟨bt, ot + i, none⟩) (cell_block (hct i h))).trans (hct i h)
          have HBS0 := HBS
          have HOT0 := HOT
          clear HXT HXT0 hct
          go_wp2_with fail
          go_loopg [11, 14] xt.length (fun g vl vj wt => ∃ (j : Nat) (us : List ByteArray), vj = .int .i64 j ∧ j ≤ xt.length ∧ xt.length - j ≤ g ∧ Hid (OwnT N0 wt vl us) ∧ Hid (us = (T0 ++ xt.take j).take 9) ∧ Hid (Below N0 W0 wt))
          case atStart => exact ⟨0, ts, rfl, by omega, by omega, HOT0, (show Hid _ from by show _ = _; rw [List.take_zero, List.append_nil]; exact HTS.out), HBS0⟩
          case round =>
          clear HOT0 HBS0 HOT HTS HBS c0 c1 hN0w
          obtain ⟨j, us, rfl, hj, hgj, HOU, HUS, HBU⟩ := hrel
          obtain ⟨hbw, hN0w⟩ := KPW.out _ HBU.out
          have c1 := (HKC.out _ hbw).2
          obtain ⟨pu, cu, rfl⟩ := own_slice HOU.out
          have hu9 : us.length ≤ 9 := by
            have := congrArg List.length HUS.out
            rw [List.length_take] at this
            omega
          by_cases hjl : j < xt.length
          · have hjz : (j : Int) < (xt.length : Int) := by omega
            have hjd : decide ((j : Int) < (xt.length : Int)) = true := decide_eq_true hjz
            have hj0 : (0 : Int) ≤ (j : Int) := by omega
            by_cases h9 : us.length < 9
            · have h9z : (us.length : Int) < 9 := by omega
              have h9d : decide ((us.length : Int) < 9) = true := decide_eq_true h9z
              have ct := HCT.out _ hbw j hjl
              have hus : us ++ [xt[j]] = (T0 ++ xt.take (j + 1)).take 9 := by
                have h1 := HUS.out
                have h2 : (T0 ++ xt.take j).length < 9 := by
                  have := congrArg List.length h1
                  rw [List.length_take] at this
                  omega
                rw [List.take_of_length_le (by omega)] at h1
                rw [List.take_succ_eq_append_getElem hjl, ← List.append_assoc, ← h1, List.take_of_length_le (by rw [List.length_append, List.length_singleton]; omega)]
              obtain ⟨t, htt⟩ : ∃ t, xt[j] = t := ⟨_, rfl⟩
              rw [htt] at ct hus
              have HUN := hid hus
              clear htt hus HUS hbw
              go_wp2_with (first | (at_builtin; refine wpList_append_own _ rfl _ _ 28 rfl N0 9 i0 (.string ⟨#[]⟩) 1 16 Tryd.underlying28 HI.out hz0 hz1 hz2 rfl (by decide) _ _ _ rfl (World.ownsRow.alloc HOU.out _) ⟨wr.heap.size, 0, none⟩ 1 1 [.string t] rfl rfl ?c1 ?c2 ?c3 ?c4 ?c5 ?_))
              case c1 =>
                intro m u hm
                match m, hm with
                | 0, hm => simp at hm; subst hm; simp [Addr.add]
              case c2 => intro u hu; simp at hu; subst hu; rfl
              case c3 => unfold maxLen; omega
              case c4 => omega
              case c5 => simp; omega
              intro v4 w4 hown4 hg4 _
              have HO4 : Hid (OwnT N0 w4 v4 (us ++ [t])) := by
                show OwnT N0 w4 v4 (us ++ [t])
                unfold OwnT
                simp only [List.length_append, List.length_cons, List.length_nil, List.map_append, List.map_cons, List.map_nil]
                exact hown4
              have HB4 : Hid (Below N0 W0 w4) := (HBU.out.alloc hN0w _).grown hg4 (by simp; omega) (fun q hq => (World.ownsRow.lt HOU.out q hq).1)
              clear hown4 hg4
              go_wp2_with fail
              go_roundg (xt.length - (j + 1))
              case measure => omega
              case rel => exact ⟨j + 1, us ++ [t], by go_num, by omega, by omega, HO4, HUN, HB4⟩
            · have h9z : ¬ (us.length : Int) < 9 := by omega
              have h9d : decide ((us.length : Int) < 9) = false := decide_eq_false h9z
              have HU2 : Hid (us = (txtOf ((d.map Fx.fld).take (i + 1)) nm).take 9) := by
                show _ = _
                rw [HTX.out]
                conv => rhs; rw [← List.take_append_drop j xt]
                rw [take9_more]
                · exact HUS.out
                · have := congrArg List.length HUS.out
                  rw [List.length_take] at this
                  omega
              clear HUS hbw
              go_wp2_with fail
              go_roundg (d.length - (i + 1))
              case measure => omega
              case rel => exact ⟨i + 1, n + xt.length, us, by go_num, by first | rfl | go_num, by omega, by omega, HOU, HU2, HN2, HBU⟩
          · have hjz : ¬ (j : Int) < (xt.length : Int) := by omega
            have hjd : decide ((j : Int) < (xt.length : Int)) = false := decide_eq_false hjz
            have HU2 : Hid (us = (txtOf ((d.map Fx.fld).take (i + 1)) nm).take 9) := by
              show _ = _
              rw [HTX.out, HUS.out, List.take_of_length_le (show xt.length ≤ j by omega)]
            clear HUS hbw
            go_wp2_with fail
            go_roundg (d.length - (i + 1))
            case measure => omega
            case rel => exact ⟨i + 1, n + xt.length, us, by go_num, by first | rfl | go_num, by omega, by omega, HOU, HU2, HN2, HBU⟩
      · have hq := eq_false hnm
        rw [if_neg hnm, List.append_nil] at HTX
        rw [← HTX.out] at HTS HN
        clear hnm HTX HXT HXT0
        go_wp2_with fail
        go_roundg (d.length - (i + 1))
        case measure => omega
        case rel => exact ⟨i + 1, n, ts, by go_num, rfl, by omega, by omega, HOT, HTS, HN, HBS⟩
    have hltz : ¬ (i : Int) < (d.length : Int) := by omega
    rw [List.take_of_length_le (show (d.map Fx.fld).length ≤ i by simp; omega), ← HGT.out] at HTS HN
    obtain ⟨hbw, hN0w⟩ := KPW.out _ HBS.out
    have HXS : Hid (OwnXs w.heap.size wr u5 dr) := HOX.out.on (by rw [HN0.out]; exact HBS.out)
    obtain ⟨pl, cl, rfl⟩ := own_slice HOT.out
    obtain ⟨pr, cr, rfl, _⟩ := HXS.out.is
    have hdl1 : dr.length ≤ k := by
      have := congrArg List.length HDM.out
      rw [List.length_map, List.length_map, List.length_take] at this
      omega
    have hdl2 : dr.length ≤ 17 := by
      have := congrArg List.length HDM.out
      rw [List.length_map, List.length_map, List.length_take] at this
      omega
    have hdl3 : k ≤ dr.length ∨ 17 ≤ dr.length := by
      have := congrArg List.length HDM.out
      rw [List.length_map, List.length_map, List.length_take] at this
      omega
    have hwN : w.heap.size ≤ N0 := by rw [← HN0.out]; exact hszw
    have HBX := hid hbw
    have hszx := hbw.size
    clear hlt hi hgi hbw hltz2
    go_upto_region 27 with fail
    go_cut [6] from 108 to 112 (fun vb wx => wr = wx ∧ vb = .bool ((G.take (k + 1)).any bareB))
    case first =>
      cases B6 with
      | true =>
        go_wp2_with fail
        go_meet
        case rel => exact ⟨rfl, by rw [HAN.out, HB6.out]; rfl⟩
      | false =>
        by_cases hn0 : n = 0
        · have hnz2 : ((n : Int) == 0) = true := beq_iff_eq.2 (by omega)
          have HG0 : Hid (gt.isEmpty = true) := by
            show _ = _
            have := HN.out
            rw [hn0] at this
            rw [List.length_eq_zero_iff.1 this.symm]; rfl
          clear hn0
          go_wp2_with fail
          go_meet
          case rel => exact ⟨rfl, by rw [HAN.out, HB6.out]; simp only [bareB]; rw [HG0.out]; rfl⟩
        · have hnz2 : ((n : Int) == 0) = false := beq_eq_false_iff_ne.2 (by omega)
          have HG0 : Hid (gt.isEmpty = false) := by
            show _ = _
            have := HN.out
            cases hg : gt with
            | nil => rw [hg] at this; exact absurd this hn0
            | cons _ _ => rfl
          clear hn0
          go_wp2_with fail
          go_meet
          case rel => exact ⟨rfl, by rw [HAN.out, HB6.out]; simp only [bareB]; rw [HG0.out]; rfl⟩
    case rest =>
    obtain ⟨rfl, rfl⟩ := hcut
    obtain ⟨B7, hB7⟩ : ∃ B, (G.take (k + 1)).any bareB = B := ⟨_, rfl⟩
    rw [hB7]
    have HB7 := hid hB7
    clear hB7
    have HX9 : Hid (∀ v5 w5, w5.ownsRow w.heap.size 30 2 v5 (dr.length + 1) (cellsX dr ++ cellsX [⟨nm, pl, cl, ts⟩]) → (wr.alloc (.cells #[.string nm, .slice pl ts.length cl] 30)).grownBy w5 (Value.slice pr dr.length cr).ownBlock → k < 17 → RnSt w G (k + 1) v5 w5) := fun v5 w5 hown5 hg5 hk17 => by
      have hal : Below wr.heap.size wr (wr.alloc (.cells #[.string nm, .slice pl ts.length cl] 30)) := (Below.refl _ _).alloc (Nat.le_refl _) _
      have hox5 := (HXS.out.on hal).put (x := ⟨nm, pl, cl, ts⟩) (own_weak (OwnT.on HOT.out hal) hwN) hown5 hg5
      refine ⟨_, hox5, ?_, (HBX.out.alloc hszx _).grown hg5 (by simp; omega) (fun q hq => (World.ownsRow.lt HXS.out.1 q hq).1)⟩
      rw [HCS.out hk17, List.map_append, HDM.out]
      simp only [List.map_cons, List.map_nil, Fx.fld, capF]
      rw [HTS.out]
    by_cases hk16 : k < 16
    · have g1 : decide (16 < k) = false := decide_eq_false (by omega)
      have g2 : ((dr.length : Int) == 16) = false := beq_eq_false_iff_ne.2 (by omega)
      have g3 : (dr.length : Int) < 17 := by omega
      have g4 : decide (16 < k + 1) = false := decide_eq_false (by omega)
      go_wp2_with (first | (at_builtin; refine wpList_append_own _ rfl _ _ 22 rfl w.heap.size 30 j0 (.agg #[.string ⟨#[]⟩, .slice none 0 0]) 2 40 Tryd.underlying22 HJ.out hy0 hy1 hy2 rfl (by decide) _ _ _ rfl (World.ownsRow.alloc HXS.out.1 _) ⟨wr.heap.size, 0, none⟩ 1 1 (cellsX [⟨nm, pl, cl, ts⟩]) rfl rfl (news_x wr ⟨nm, pl, cl, ts⟩) (cellsX_one _) ?c3 ?c4 ?c5 ?_))
      case c3 => unfold maxLen; omega
      case c4 => omega
      case c5 => first | omega | (simp; omega)
      intro v5 w5 hown5 hg5 _
      have HST := hid (HX9.out v5 w5 hown5 hg5 (by omega))
      clear hown5 hg5
      go_wp2_with fail
      go_roundg (G.length - (k + 1))
      case measure => omega
      case rel => exact ⟨k + 1, by omega, by omega, by rw [HB7.out], by rw [g4], by rw [HLS.out], HST.out⟩
    · by_cases hk17 : k = 16
      · have g1 : decide (16 < k) = false := decide_eq_false (by omega)
        have g2 : ((dr.length : Int) == 16) = true := beq_iff_eq.2 (by omega)
        have g3 : (dr.length : Int) < 17 := by omega
        have g4 : decide (16 < k + 1) = true := decide_eq_true (by omega)
        clear hk16
        have hk17' : k < 17 := by omega
        clear hk17
        go_wp2_with (first | (at_builtin; refine wpList_append_own _ rfl _ _ 22 rfl w.heap.size 30 j0 (.agg #[.string ⟨#[]⟩, .slice none 0 0]) 2 40 Tryd.underlying22 HJ.out hy0 hy1 hy2 rfl (by decide) _ _ _ rfl (World.ownsRow.alloc HXS.out.1 _) ⟨wr.heap.size, 0, none⟩ 1 1 (cellsX [⟨nm, pl, cl, ts⟩]) rfl rfl (news_x wr ⟨nm, pl, cl, ts⟩) (cellsX_one _) ?c3 ?c4 ?c5 ?_))
        case c3 => unfold maxLen; omega
        case c4 => omega
        case c5 => first | omega | (simp; omega)
        intro v5 w5 hown5 hg5 _
        have HST := hid (HX9.out v5 w5 hown5 hg5 hk17')
        clear hown5 hg5
        go_wp2_with fail
        go_roundg (G.length - (k + 1))
        case measure => omega
        case rel => exact ⟨k + 1, by omega, by omega, by rw [HB7.out], by rw [g4], by rw [HLS.out], HST.out⟩
      · have g1 : decide (16 < k) = true := decide_eq_true (by omega)
        have g3 : ¬ (dr.length : Int) < 17 := by omega
        have g4 : decide (16 < k + 1) = true := decide_eq_true (by omega)
        have HST : Hid (RnSt w G (k + 1) (.slice pr dr.length cr) wr) := ⟨dr, HXS.out, by rw [HDM.out, Nat.min_eq_right (show 17 ≤ k by omega), Nat.min_eq_right (show 17 ≤ k + 1 by omega)], HBX.out⟩
        go_wp2_with fail
        go_roundg (G.length - (k + 1))
        case measure => omega
        case rel => exact ⟨k + 1, by omega, by omega, by rw [HB7.out], by rw [g4], by rw [HLS.out], HST.out⟩
  · rw [dif_neg hkl]
    obtain rfl : k = G.length := by omega
    rw [List.take_length] at HB6
    have hmm : mayB (dr.map Fx.fld) = mayB G ∨ 16 < G.length := by
      by_cases h : 16 < G.length
      · exact Or.inr h
      · left
        rw [HDM.out, Nat.min_eq_left (by omega), List.take_length, cap_may]
    have HMM := hid hmm
    have hfit := rn_fit HF.out (by rw [HGE.out]; exact HDM.out)
    have HMY := hid (rmay_any u5 dr wr HOX.out.is hfit)
    clear hmm hfit
    cases B6 with
    | true =>
      go_wp2_with fail
      go_ret2
      exact ⟨Or.inr ⟨HMIS.out, Or.inl ⟨by rw [HGE.out]; exact HB6.out, rfl⟩⟩, HBW.out⟩
    | false =>
      by_cases h16 : 16 < G.length
      · have g1 : decide (16 < G.length) = true := decide_eq_true h16
        go_wp2_with fail
        go_ret2
        exact ⟨Or.inr ⟨HMIS.out, Or.inr (Or.inl ⟨by rw [HGE.out]; exact HB6.out, by rw [HGE.out]; exact may_long h16, rfl⟩)⟩, HBW.out⟩
      · have g1 : decide (16 < G.length) = false := decide_eq_false h16
        have HME : Hid (mayB (dr.map Fx.fld) = mayB G) := HMM.out.resolve_right h16
        rw [HME.out] at HMY
        cases hm : mayB G with
        | false =>
          rw [hm] at HMY
          go_wp2_with (first | (go_at_call 31; refine HMY.out.mono ?_; rintro e w2 ⟨rfl, hg2⟩))
          go_ret2
          exact ⟨Or.inr ⟨HMIS.out, Or.inr (Or.inl ⟨by rw [HGE.out]; exact HB6.out, by rw [HGE.out]; exact hm, rfl⟩)⟩, HBW.out.trans (hg2.below.mono hszw)⟩
        | true =>
          rw [hm] at HMY
          go_wp2_with (first | (go_at_call 31; refine HMY.out.mono ?_; rintro e w2 ⟨rfl, hg2⟩))
          go_ret2
          refine ⟨Or.inr ⟨HMIS.out, Or.inr (Or.inr ⟨by rw [HGE.out]; exact HB6.out, by rw [HGE.out]; exact hm, u5, dr, rfl, HOX.out.on hg2.below, ?_⟩)⟩, HBW.out.trans (hg2.below.mono hszw)⟩
          rw [HGE.out, HDM.out, Nat.min_eq_left (by omega), List.take_length]
          exact cap_map fun f hf => (fits_parts (may_fits hm f hf)).2.2.1

end Go.Proofs.YtmjchokacmbkoabDoor

/-
  The contracts of SameTexts, SameFields and Same of the reference.
-/
namespace Go.Proofs.YtmjchokacmbkoabDoor
open Go.RowKit

theorem str_ne {s t : ByteArray} (h : ¬ s = t) : (s.toList == t.toList) = false := by
  rw [Lib.toList_data, Lib.toList_data, beq_eq_false_iff_ne]
  intro e
  apply h
  obtain ⟨⟨s⟩⟩ := s
  obtain ⟨⟨t⟩⟩ := t
  simp at e
  rw [e]

set_option maxHeartbeats 1000000 in
set_option maxRecDepth 100000 in
theorem sameT_any (p q : Option Addr) (cap cap' : Nat) (ts us : List ByteArray) (w : World) (h1 : TxtAt w p ts) (h2 : TxtAt w q us) (hl1 : ts.length ≤ maxLen) :
    Calls Tryd.prog 9 #[.slice p ts.length cap, .slice q us.length cap'] w fun e w' => e = .returned (.bool (decide (ts = us))) ∧ ∃ n, w' = w.drewN n := by
  unfold maxLen at hl1
  obtain ⟨r, hr⟩ : ∃ r, decide (ts = us) = r := ⟨_, rfl⟩
  rw [hr]
  have HR := hid hr
  have H1 := hid h1
  have H2 := hid h2
  clear hr h1 h2
  by_cases hl : ts.length = us.length
  · have hb : ((ts.length : Int) != (us.length : Int)) = false := by simp [hl]
    have HL := hid hl
    clear hl
    go_enter Tryd.func9, Tryd.ntmps9
    go_wp2_with fail
    go_loopg [5] ts.length (fun g vi wr => ∃ i m : Nat, vi = .int .i64 i ∧ i ≤ ts.length ∧ ts.length - i ≤ g ∧ wr = w.drewN m ∧ Hid (∀ j, j < i → ts[j]? = us[j]?))
    case atStart => exact ⟨0, 0, rfl, by omega, by omega, rfl, fun j h => by omega⟩
    case round =>
      obtain ⟨i, m, rfl, hi, hg, rfl, HJ⟩ := hrel
      by_cases hlt : i < ts.length
      · have hlt2 : i < us.length := by rw [← HL.out]; exact hlt
        have i1 : (0 : Int) ≤ ↑i := by omega
        have i2 : (↑i : Int) < ↑ts.length := by omega
        have i3 : (↑i : Int) < ↑us.length := by omega
        rcases H1.out with hn | ⟨b1, o1, rfl, k1⟩
        · rw [hn] at hlt; simp at hlt
        rcases H2.out with hn | ⟨b2, o2, rfl, k2⟩
        · rw [hn] at hlt2; simp at hlt2
        have e1 := k1 i hlt
        have e2 := k2 i hlt2
        have g1 : ts[i]? = some ts[i] := List.getElem?_eq_getElem hlt
        have g2 : us[i]? = some us[i] := List.getElem?_eq_getElem hlt2
        clear k1 k2
        obtain ⟨s, hs⟩ : ∃ s, ts[i] = s := ⟨_, rfl⟩
        obtain ⟨t, ht⟩ : ∃ t, us[i] = t := ⟨_, rfl⟩
        rw [hs] at e1 g1
        rw [ht] at e2 g2
        have G1 := hid g1
        have G2 := hid g2
        clear hs ht g1 g2
        by_cases hst : s = t
        · subst hst
          go_wp2_with fail
          go_quiet (fail)
          go_wp2_with fail
          go_roundg (ts.length - (i + 1))
          case measure => omega
          refine ⟨i + 1, _, by go_num, by omega, by omega, rfl, fun j hj => ?_⟩
          by_cases e : j = i
          · subst e; rw [G1.out, G2.out]
          · exact HJ.out j (by omega)
        · have hne := str_ne hst
          have H0 : Hid (r = false) := HR.out.symm.trans (decide_eq_false fun e => hst (by
            have := G1.out
            rw [e, G2.out] at this
            exact (Option.some.inj this).symm))
          go_wp2_with fail
          go_quiet (fail)
          go_wp2_with fail
          go_ret
          exact ⟨ret_bool H0.out.symm, _, by rw [World.drewN_drewN]⟩
      · have hltz : ¬ (i : Int) < (ts.length : Int) := by omega
        have H0 : Hid (r = true) := HR.out.symm.trans (decide_eq_true (List.ext_getElem? fun j => by
          by_cases hj : j < ts.length
          · exact HJ.out j (by omega)
          · rw [List.getElem?_eq_none (by omega), List.getElem?_eq_none (by have := HL.out; omega)]))
        go_wp2_with fail
        go_ret
        exact ⟨ret_bool H0.out.symm, _, rfl⟩
  · have hb : ((ts.length : Int) != (us.length : Int)) = true := by simp; omega
    have H0 : Hid (r = false) := HR.out.symm.trans (decide_eq_false fun e => hl (by rw [e]))
    go_enter Tryd.func9, Tryd.ntmps9
    go_wp2_with fail
    go_ret
    exact ⟨ret_bool H0.out.symm, 0, rfl⟩

theorem TxtAt.draws {w : World} {p : Option Addr} {ts : List ByteArray} (h : TxtAt w p ts) (n : Nat) : TxtAt (w.drewN n) p ts := h

set_option maxHeartbeats 2000000 in
set_option maxRecDepth 100000 in
theorem sameF_any (v u : Value) (d e : List Fx) (w : World) (hv : IsXs w v d) (hu : IsXs w u e) (hf : FitX d) (hg : FitX e) :
    Calls Tryd.prog 11 #[v, u] w fun r w' => r = .returned (.bool (decide (d.map Fx.fld = e.map Fx.fld))) ∧ ∃ n, w' = w.drewN n := by
  obtain ⟨p, cap, rfl, hd, ht⟩ := hv
  obtain ⟨q, cap', rfl, he, ht'⟩ := hu
  have hl1 := hf.1
  have hl2 := hg.1
  unfold maxLen at hl1 hl2
  have HF := hid hf.2
  have HG := hid hg.2
  have HD := hid hd
  have HE := hid he
  have HT := hid ht
  have HT' := hid ht'
  obtain ⟨r, hr⟩ : ∃ r, decide (d.map Fx.fld = e.map Fx.fld) = r := ⟨_, rfl⟩
  rw [hr]
  have HR := hid hr
  clear hr hd he ht ht' hf hg
  by_cases hl : d.length = e.length
  · have hb : ((d.length : Int) != (e.length : Int)) = false := by simp [hl]
    have HL := hid hl
    clear hl
    go_enter Tryd.func11, Tryd.ntmps11
    go_wp2_with fail
    go_loopg [5] d.length (fun g vi wr => ∃ i m : Nat, vi = .int .i64 i ∧ i ≤ d.length ∧ d.length - i ≤ g ∧ wr = w.drewN m ∧ Hid (∀ j, j < i → (d.map Fx.fld)[j]? = (e.map Fx.fld)[j]?))
    case atStart => exact ⟨0, 0, rfl, by omega, by omega, rfl, fun j h => by omega⟩
    case round =>
      obtain ⟨i, m, rfl, hi, hgk, rfl, HJ⟩ := hrel
      by_cases hlt : i < d.length
      · have hlt2 : i < e.length := by rw [← HL.out]; exact hlt
        have i1 : (0 : Int) ≤ ↑i := by omega
        have i2 : (↑i : Int) < ↑d.length := by omega
        have i3 : (↑i : Int) < ↑e.length := by omega
        rcases HD.out with hn | ⟨b1, o1, rfl, k1⟩
        · rw [hn] at hlt; simp at hlt
        rcases HE.out with hn | ⟨b2, o2, rfl, k2⟩
        · rw [hn] at hlt2; simp at hlt2
        obtain ⟨x0, x1⟩ := k1 i hlt
        obtain ⟨y0, y1⟩ := k2 i hlt2
        have g1 : (d.map Fx.fld)[i]? = some (d[i]).fld := by rw [List.getElem?_map, List.getElem?_eq_getElem hlt]; rfl
        have g2 : (e.map Fx.fld)[i]? = some (e[i]).fld := by rw [List.getElem?_map, List.getElem?_eq_getElem hlt2]; rfl
        have fx := HF.out _ (List.getElem_mem hlt)
        have fy := HG.out _ (List.getElem_mem hlt2)
        have tx := HT.out _ (List.getElem_mem hlt)
        have ty := HT'.out _ (List.getElem_mem hlt2)
        clear k1 k2
        obtain ⟨x, hx⟩ : ∃ x, d[i] = x := ⟨_, rfl⟩
        obtain ⟨y, hy⟩ : ∃ y, e[i] = y := ⟨_, rfl⟩
        rw [hx] at x0 x1 g1 fx tx
        rw [hy] at y0 y1 g2 fy ty
        unfold Fx.sl at x1 y1
        have G1 := hid g1
        have G2 := hid g2
        obtain ⟨W, hW⟩ : ∃ W, w.drewN m = W := ⟨_, rfl⟩
        have HC : Hid (∀ n, Calls Tryd.prog 9 #[.slice x.p x.txt.length x.cap, .slice y.p y.txt.length y.cap] (W.drewN n) fun r w' => r = .returned (.bool (decide (x.txt = y.txt))) ∧ ∃ k, w' = (W.drewN n).drewN k) := fun n => by
          subst hW
          exact sameT_any _ _ _ _ _ _ _ tx ty fx.2.1
        replace x0 : W.cell? ⟨b1, o1 + i * 2, none⟩ = some (.string x.name) := by subst hW; exact x0
        replace x1 : W.cell? ⟨b1, o1 + i * 2 + 1, none⟩ = some (.slice x.p x.txt.length x.cap) := by subst hW; exact x1
        replace y0 : W.cell? ⟨b2, o2 + i * 2, none⟩ = some (.string y.name) := by subst hW; exact y0
        replace y1 : W.cell? ⟨b2, o2 + i * 2 + 1, none⟩ = some (.slice y.p y.txt.length y.cap) := by subst hW; exact y1
        have HW := hid hW
        rw [hW]
        have mixed := Tryd.mixed
        clear hx hy g1 g2 fx fy tx ty hW
        by_cases hst : x.name = y.name
        · obtain ⟨nm, hnm⟩ : ∃ nm, y.name = nm := ⟨_, rfl⟩
          rw [hst, hnm] at x0
          rw [hnm] at y0
          have HN : Hid (x.name = nm ∧ y.name = nm) := ⟨hst.trans hnm, hnm⟩
          clear hst hnm
          by_cases hts : x.txt = y.txt
          · have hd := decide_eq_true hts
            have HTS := hid hts
            rw [hd] at HC
            clear hd hts
            go_wp2_with fail
            refine wp_region_quiet_lit mixed (by kernel_rfl) ?_
            repeat (go_big_quiet_step (first | (go_at_call 9; refine Calls.quiet_of (HC.out _))))
            refine wpQuiet_nil ?_
            intro _ hw'
            obtain ⟨nq, hw''⟩ := hw'
            subst hw''
            go_wp2_with fail
            go_roundg (d.length - (i + 1))
            case measure => omega
            refine ⟨i + 1, m + nq, by go_num, by omega, by omega, by rw [← HW.out, World.drewN_drewN], fun j hj => ?_⟩
            by_cases ej : j = i
            · subst ej
              rw [G1.out, G2.out]
              unfold Fx.fld
              rw [HN.out.1, HN.out.2, HTS.out]
            · exact HJ.out j (by omega)
          · have hd := decide_eq_false hts
            rw [hd] at HC
            have H0 : Hid (r = false) := HR.out.symm.trans (decide_eq_false fun ee => hts (by
              have := G1.out
              rw [ee, G2.out] at this
              have := congrArg Prod.snd (Option.some.inj this)
              exact this.symm))
            clear hd hts
            go_wp2_with fail
            refine wp_region_quiet_lit mixed (by kernel_rfl) ?_
            repeat (go_big_quiet_step (first | (go_at_call 9; refine Calls.quiet_of (HC.out _))))
            refine wpQuiet_nil ?_
            intro _ hw'
            obtain ⟨nq, hw''⟩ := hw'
            subst hw''
            go_wp2_with fail
            go_ret
            exact ⟨ret_bool H0.out.symm, m + nq, by rw [← HW.out, World.drewN_drewN]⟩
        · have hne := str_ne hst
          have H0 : Hid (r = false) := HR.out.symm.trans (decide_eq_false fun ee => hst (by
            have := G1.out
            rw [ee, G2.out] at this
            have := congrArg Prod.fst (Option.some.inj this)
            exact this.symm))
          go_wp2_with fail
          refine wp_region_quiet_lit mixed (by kernel_rfl) ?_
          repeat (go_big_quiet_step (first | (go_at_call 9; refine Calls.quiet_of (HC.out _))))
          refine wpQuiet_nil ?_
          intro _ hw'
          obtain ⟨nq, hw''⟩ := hw'
          subst hw''
          go_wp2_with fail
          go_ret
          exact ⟨ret_bool H0.out.symm, m + nq, by rw [← HW.out, World.drewN_drewN]⟩
      · have hltz : ¬ (i : Int) < (d.length : Int) := by omega
        have H0 : Hid (r = true) := HR.out.symm.trans (decide_eq_true (List.ext_getElem? fun j => by
          by_cases hj : j < d.length
          · exact HJ.out j (by omega)
          · rw [List.getElem?_eq_none (by simp; omega), List.getElem?_eq_none (by have := HL.out; simp; omega)]))
        go_wp2_with fail
        go_ret
        exact ⟨ret_bool H0.out.symm, _, rfl⟩
  · have hb : ((d.length : Int) != (e.length : Int)) = true := by simp; omega
    have H0 : Hid (r = false) := HR.out.symm.trans (decide_eq_false fun ee => hl (by have := congrArg List.length ee; simpa using this))
    go_enter Tryd.func11, Tryd.ntmps11
    go_wp2_with fail
    go_ret
    exact ⟨ret_bool H0.out.symm, 0, rfl⟩

set_option maxHeartbeats 1000000 in
theorem same_any (v u : Value) (d e : List Fx) (k : Int) (w : World) (hv : IsXs w v d) (hu : IsXs w u e) (hf : FitX d) (hg : FitX e) :
    Calls Tryd.prog 14 #[v, u, .int .i64 k, .int .i64 k] w fun r w' => r = .returned (.bool (decide (d.map Fx.fld = e.map Fx.fld))) ∧ ∃ n, w' = w.drewN n := by
  have HC := hid (sameF_any v u d e w hv hu hf hg)
  clear hv hu
  go_enter Tryd.func14, Tryd.ntmps14
  go_wp2_with (first | (go_at_call 11; refine HC.out.mono ?_; rintro r w1 ⟨rfl, n, rfl⟩))
  go_ret
  exact ⟨rfl, n, rfl⟩

end Go.Proofs.YtmjchokacmbkoabDoor

/-
  fixed answers true.
-/
namespace Go.Proofs.YtmjchokacmbkoabDoor
open Go.RowKit Go.Sort Go.Lib

theorem fitF_small (fs : List Fld) (h : fs.all (fun f => decide (f.1.size ≤ 100) && decide (f.2.length ≤ 100) && f.2.all fun t => decide (t.size ≤ 100)) = true) : ∀ f ∈ fs, FitF f := by
  intro f hf
  rw [List.all_eq_true] at h
  have := h f hf
  simp only [Bool.and_eq_true, decide_eq_true_eq, List.all_eq_true] at this
  exact ⟨Nat.le_trans this.1.1 (by decide), Nat.le_trans this.1.2 (by decide), fun t ht => Nat.le_trans (this.2 t ht) (by decide)⟩

theorem fitFx {d : List Fx} {fs : List Fld} (h : d.map Fx.fld = fs) (hl : fs.length ≤ 100) (hf : ∀ f ∈ fs, FitF f) : FitX d := by
  subst h
  rw [List.length_map] at hl
  exact ⟨Nat.le_trans hl (by decide), fun x hx => hf _ (List.mem_map.2 ⟨x, hx, rfl⟩)⟩

theorem fixA_fit : ∀ f ∈ fixA, FitF f := fitF_small _ (by decide)
theorem fixN_fit : ∀ f ∈ fixN, FitF f := fitF_small _ (by decide)
theorem fixE_fit : ∀ f ∈ fixE, FitF f := fitF_small _ (by decide)
theorem fixQ_fit : ∀ f ∈ fixQ, FitF f := fitF_small _ (by decide)

/-- What an answer of Norm or Parse is known by. -/
def OwnAns (w : World) (fs : List Fld) (n : Nat) (e : Ending) (w' : World) : Prop :=
  ∃ p c d, e = .returned (.tuple #[.slice p n c, .int .i64 0]) ∧ OwnXs w.heap.size w' (.slice p n c) d ∧ d.map Fx.fld = fs ∧ Below w.heap.size w w'

theorem own_len {n0 : Nat} {w : World} {u : Value} {d : List Fx} (h : OwnXs n0 w u d) : ∃ p c, u = .slice p d.length c := by
  rcases h.1.2 with ⟨rfl, h0⟩ | ⟨g, cap, cur, rfl, _⟩
  · exact ⟨none, 0, by rw [h0]⟩
  · exact ⟨_, _, rfl⟩

theorem ownAns_of {w w' : World} {u : Value} {d : List Fx} {fs : List Fld} {n : Nat} (hn : fs.length = n) (ho : OwnXs w.heap.size w' u d) (hm : d.map Fx.fld = fs) (hb : Below w.heap.size w w') : OwnAns w fs n (.returned (.tuple #[u, .int .i64 0])) w' := by
  obtain ⟨p, c, rfl⟩ := own_len ho
  have e : d.length = n := by rw [← hn, ← hm, List.length_map]
  rw [e] at ho ⊢
  exact ⟨p, c, d, rfl, ho, hm, hb⟩

theorem fix_norm (v : Value) (d : List Fx) (w : World) (hv : IsXs w v d) (hm : d.map Fx.fld = fixA) : Calls Tryd.prog 7 #[v] w fun e w' => OwnAns w fixN 2 e w' := by
  have hl : d.length = 3 := by have := congrArg List.length hm; simpa [fixA] using this
  refine (norm_any v d w hv (fitFx hm (by decide) fixA_fit) (by omega) (by rw [hm]; decide)).mono ?_
  intro e w' h
  have hp := h.ans.plain
  rw [hm, fixA_norm] at hp
  rcases hp with ⟨h1, _⟩ | ⟨_, ⟨h1, _⟩ | ⟨_, h1, _⟩ | ⟨_, _, u, o, rfl, ho, hom⟩⟩
  · rw [fixA_mis] at h1; cases h1
  · rw [fixN_bare] at h1; cases h1
  · rw [fixN_may] at h1; cases h1
  · exact ownAns_of rfl ho.1 hom h.2

theorem fix_print (v : Value) (d : List Fx) (w : World) (hp : PlainAt w) (hv : IsXs w v d) (hm : d.map Fx.fld = fixN) :
    Calls Tryd.prog 15 #[v] w fun e w' => e = .returned (.tuple #[.string ⟨#[97, 61, 121, 32, 98, 61, 120, 32, 98, 61, 122]⟩, .int .i64 0]) ∧ Below w.heap.size w w' := by
  have := print_yes v d w hp hv (fitFx hm (by decide) fixN_fit) (by rw [hm]; exact fixN_may)
  rw [hm, fixN_line] at this
  exact this

theorem fix_encode (v : Value) (d : List Fx) (w : World) (hv : IsXs w v d) (hm : d.map Fx.fld = fixE) :
    Calls Tryd.prog 18 #[v] w fun e w' => ∃ g c, e = .returned (.tuple #[.slice (some ⟨g, 0, none⟩) 7 c, .int .i64 0]) ∧ OwnB w.heap.size w' (.slice (some ⟨g, 0, none⟩) 7 c) [1, 1, 97, 2, 1, 120, 0] ∧ Below w.heap.size w w' := by
  have h := encode_yes v d w hv (fitFx hm (by decide) fixE_fit) (by rw [hm]; exact fixE_may)
  rw [hm, fixE_enc] at h
  refine h.mono ?_
  rintro e w' ⟨⟨u, rfl, hb⟩, hq⟩
  rcases hb.2 with ⟨_, h0⟩ | ⟨g, cap, cur, rfl, _⟩
  · simp at h0
  · exact ⟨g, cap, rfl, hb, hq⟩

theorem own_rest {n0 : Nat} {w : World} {g c : Nat} {l : List UInt8} (h : OwnB n0 w (.slice (some ⟨g, 0, none⟩) l.length c) l) : RestAt w.heap.size w (.slice (some ⟨g, 0, none⟩) l.length c) l := by
  rcases h.2 with ⟨hv, _⟩ | ⟨g', cap, cur, hv, _, hg, hc, hcm, hsz, htk⟩
  · cases hv
  · cases hv
    refine ⟨_, _, rfl, by omega, by omega, Or.inr ⟨g, 0, rfl, (Array.getElem?_eq_some_iff.1 hg).1, fun i hi => ?_⟩⟩
    rw [Nat.zero_add, cell_of_row w g i cur _ _ hg]
    have : (Lib.byteCells l)[i]? = cur.toList[i]? := by
      rw [← htk, List.getElem?_take, if_pos (by omega)]
    rw [← Array.getElem?_toList, ← this]
    simp [Lib.byteCells, hi]

theorem fix_decode (g c : Nat) (n0 : Nat) (w : World) (hb : OwnB n0 w (.slice (some ⟨g, 0, none⟩) 7 c) [1, 1, 97, 2, 1, 120, 0]) : Calls Tryd.prog 19 #[.slice (some ⟨g, 0, none⟩) 7 c] w fun e w' => OwnAns w fixE 1 e w' := by
  refine (decode_any _ [1, 1, 97, 2, 1, 120, 0] w (own_rest hb)).mono ?_
  rintro e w' ⟨h | ⟨fs, hd, u, d, rfl, ho, hm⟩, hq⟩
  · rw [fixE_dec] at h; cases h.1
  · rw [fixE_dec] at hd; cases hd
    exact ownAns_of rfl ho hm hq

theorem fix_parse (w : World) (hp : PlainAt w) : Calls Tryd.prog 20 #[.string ⟨#[98, 61, 49, 32, 97, 61, 50]⟩] w fun e w' => OwnAns w fixQ 2 e w' := by
  have hl : (⟨#[98, 61, 49, 32, 97, 61, 50]⟩ : ByteArray).data.toList = [98, 61, 49, 32, 97, 61, 50] := rfl
  refine (parse_any _ w hp (by decide)).mono ?_
  rintro e w' ⟨h, hq⟩
  rw [hl, fix_words] at h
  rcases h with ⟨h, _⟩ | ⟨_, h, _⟩ | ⟨_, fs, d, h, hm, ha⟩
  · cases h
  · cases h
  · cases h
    have hp := ha.plain
    rw [hm, fixP_norm] at hp
    rcases hp with ⟨h1, _⟩ | ⟨_, ⟨h1, _⟩ | ⟨_, h1, _⟩ | ⟨_, _, u, o, rfl, ho, hom⟩⟩
    · rw [fixP_mis] at h1; cases h1
    · rw [fixQ_bare] at h1; cases h1
    · rw [fixQ_may] at h1; cases h1
    · exact ownAns_of rfl ho.1 hom hq

theorem fix_readc (w : World) (hp : PlainAt w) : Calls Tryd.prog 21 #[.string ⟨#[97, 37, 50, 48, 98]⟩] w fun e w' => e = .returned (.tuple #[.string ⟨#[97, 32, 98]⟩, .int .i64 0]) ∧ Below w.heap.size w w' := by
  have := read_any ⟨#[97, 37, 50, 48, 98]⟩ w hp (by decide)
  rw [show (⟨#[97, 37, 50, 48, 98]⟩ : ByteArray).data.toList = [97, 37, 50, 48, 98] from rfl, fix_read] at this
  exact this

theorem fix_writec (w : World) (hp : PlainAt w) : Calls Tryd.prog 22 #[.string ⟨#[97, 32, 98]⟩] w fun e w' => e = .returned (.string ⟨#[97, 37, 50, 48, 98]⟩) ∧ Below w.heap.size w w' := by
  have := write_any ⟨#[97, 32, 98]⟩ w hp (by decide)
  rw [show (⟨#[97, 32, 98]⟩ : ByteArray).data.toList = [97, 32, 98] from rfl, fix_write] at this
  exact this

theorem fix_may (v : Value) (d : List Fx) (w : World) (hv : IsXs w v d) (hm : d.map Fx.fld = fixN) : Calls Tryd.prog 16 #[v] w fun e w' => e = .returned (.bool true) ∧ Below w.heap.size w w' := by
  have := may_any v d w hv (fitFx hm (by decide) fixN_fit)
  rw [hm, fixN_may] at this
  exact this.mono fun _ _ ⟨h1, h2⟩ => ⟨h1, h2.below⟩

theorem fix_size (v : Value) (d : List Fx) (w : World) (hv : IsXs w v d) (hm : d.map Fx.fld = fixE) : Calls Tryd.prog 17 #[v] w fun e w' => e = .returned (.int .i64 7) ∧ Below w.heap.size w w' := by
  have := size_any v d w hv (fitFx hm (by decide) fixE_fit)
  rw [hm, fixE_size] at this
  exact this

theorem fix_equal (v : Value) (d : List Fx) (w : World) (hv : IsXs w v d) (hm : d.map Fx.fld = fixQ) : Calls Tryd.prog 8 #[v, v] w fun e w' => e = .returned (.bool true) ∧ Below w.heap.size w w' := by
  have := equal_any v v d d w hv hv (fitFx hm (by decide) fixQ_fit) (fitFx hm (by decide) fixQ_fit)
  rw [show decide (d.map Fx.fld = d.map Fx.fld) = true from decide_eq_true rfl] at this
  exact this.mono fun _ _ ⟨h1, h2⟩ => ⟨h1, h2.below⟩

theorem fix_textsc (v : Value) (d : List Fx) (w : World) (hv : IsXs w v d) (hm : d.map Fx.fld = fixN) : Calls Tryd.prog 10 #[v, .string ⟨#[98]⟩] w fun e w' => (∃ p c, e = .returned (.slice p 2 c)) ∧ Below w.heap.size w w' := by
  have hft := fitFx hm (by decide) fixN_fit
  have := texts_any v ⟨#[98]⟩ d w hv hft (fun x hx => by
    have hx' : x.fld ∈ fixN := by rw [← hm]; exact List.mem_map.2 ⟨x, hx, rfl⟩
    have h2 : ∀ f ∈ fixN, f.2.length ≤ 2 := by decide
    have h3 : x.txt.length ≤ 2 := h2 _ hx'
    omega)
  rw [hm, fix_texts] at this
  refine this.mono ?_
  rintro e w' ⟨⟨u, rfl, ho⟩, hq⟩
  obtain ⟨p, c, rfl⟩ := own_slice ho
  exact ⟨⟨p, c, rfl⟩, hq⟩

theorem lit_row {w : World} {b : Nat} {cs : Array Value} {T : TypeId} {d : List Fx} {n cap : Nat} (h : w.heap[b]? = some (.cells cs T (0, 0))) (hcs : cs.toList = cellsX d) (hn : n = d.length) (ht : ∀ x ∈ d, x.at w) : IsXs w (.slice (some ⟨b, 0, none⟩) n cap) d := by
  subst hn
  refine ⟨_, _, rfl, Or.inr ⟨b, 0, rfl, fun i hi => ?_⟩, ht⟩
  obtain ⟨c0, c1⟩ := cellsX_get d i hi
  rw [Nat.zero_add, cell_of_row w b _ cs _ _ h, cell_of_row w b _ cs _ _ h, ← Array.getElem?_toList, ← Array.getElem?_toList, hcs]
  exact ⟨c0, c1⟩

theorem lit_txt {w : World} {b : Nat} {cs : Array Value} {T : TypeId} {ts : List ByteArray} (h : w.heap[b]? = some (.cells cs T (0, 0))) (hcs : cs.toList = ts.map Value.string) : TxtAt w (some ⟨b, 0, none⟩) ts := by
  refine Or.inr ⟨b, 0, rfl, fun i hi => ?_⟩
  rw [Nat.zero_add, cell_of_row w b i cs _ _ h, ← Array.getElem?_toList, hcs]
  simp [hi]

theorem fix_norm0 (w : World) : Calls Tryd.prog 7 #[.slice (some ⟨w.heap.size + 1 + 1 + 1, 0, none⟩) 3 3]
    ((((w.alloc (.cells #[.string ⟨#[120]⟩] 9)).alloc (.cells #[.string ⟨#[121]⟩] 9)).alloc (.cells #[.string ⟨#[122]⟩] 9)).alloc
      (.cells #[.string ⟨#[98]⟩, .slice (some ⟨w.heap.size, 0, none⟩) 1 1, .string ⟨#[97]⟩, .slice (some ⟨w.heap.size + 1, 0, none⟩) 1 1, .string ⟨#[98]⟩, .slice (some ⟨w.heap.size + 1 + 1, 0, none⟩) 1 1] 30))
    fun e w' => ∃ p c d n0, e = .returned (.tuple #[.slice p 2 c, .int .i64 0]) ∧ OwnXs n0 w' (.slice p 2 c) d ∧ d.map Fx.fld = fixN ∧ Below w.heap.size w w' := by
  obtain ⟨w1, h1⟩ : ∃ w1, w.alloc (.cells #[.string ⟨#[120]⟩] 9) = w1 := ⟨_, rfl⟩
  obtain ⟨w2, h2⟩ : ∃ w2, w1.alloc (.cells #[.string ⟨#[121]⟩] 9) = w2 := ⟨_, rfl⟩
  obtain ⟨w3, h3⟩ : ∃ w3, w2.alloc (.cells #[.string ⟨#[122]⟩] 9) = w3 := ⟨_, rfl⟩
  have s1 : w1.heap.size = w.heap.size + 1 := by rw [← h1]; simp
  have s2 : w2.heap.size = w.heap.size + 1 + 1 := by rw [← h2]; simp; omega
  have s3 : w3.heap.size = w.heap.size + 1 + 1 + 1 := by rw [← h3]; simp; omega
  rw [h1, h2, h3]
  obtain ⟨w4, h4⟩ : ∃ w4, w3.alloc (.cells #[.string ⟨#[98]⟩, .slice (some ⟨w.heap.size, 0, none⟩) 1 1, .string ⟨#[97]⟩, .slice (some ⟨w.heap.size + 1, 0, none⟩) 1 1, .string ⟨#[98]⟩, .slice (some ⟨w.heap.size + 1 + 1, 0, none⟩) 1 1] 30) = w4 := ⟨_, rfl⟩
  have k4 : w4.heap[w.heap.size + 1 + 1 + 1]? = some (.cells #[.string ⟨#[98]⟩, .slice (some ⟨w.heap.size, 0, none⟩) 1 1, .string ⟨#[97]⟩, .slice (some ⟨w.heap.size + 1, 0, none⟩) 1 1, .string ⟨#[98]⟩, .slice (some ⟨w.heap.size + 1 + 1, 0, none⟩) 1 1] 30 (0, 0)) := by
    rw [← h4, ← s3]; exact heap_alloc_new w3 _
  have k3 : w4.heap[w.heap.size + 1 + 1]? = some (.cells #[.string ⟨#[122]⟩] 9 (0, 0)) := by
    rw [← h4, Below.heap_alloc _ _ _ (by omega), ← h3, ← s2]; exact heap_alloc_new w2 _
  have k2 : w4.heap[w.heap.size + 1]? = some (.cells #[.string ⟨#[121]⟩] 9 (0, 0)) := by
    rw [← h4, Below.heap_alloc _ _ _ (by omega), ← h3, Below.heap_alloc _ _ _ (by omega), ← h2, ← s1]; exact heap_alloc_new w1 _
  have k1 : w4.heap[w.heap.size]? = some (.cells #[.string ⟨#[120]⟩] 9 (0, 0)) := by
    rw [← h4, Below.heap_alloc _ _ _ (by omega), ← h3, Below.heap_alloc _ _ _ (by omega), ← h2, Below.heap_alloc _ _ _ (by omega), ← h1]; exact heap_alloc_new w _
  have hb : Below w.heap.size w w4 := by
    rw [← h4, ← h3, ← h2, ← h1]
    exact ((((Below.refl _ w).alloc (Nat.le_refl _) _).alloc (by simp) _).alloc (by simp; omega) _).alloc (by simp; omega) _
  rw [h4]
  refine (fix_norm _ [⟨⟨#[98]⟩, some ⟨w.heap.size, 0, none⟩, 1, [⟨#[120]⟩]⟩, ⟨⟨#[97]⟩, some ⟨w.heap.size + 1, 0, none⟩, 1, [⟨#[121]⟩]⟩, ⟨⟨#[98]⟩, some ⟨w.heap.size + 1 + 1, 0, none⟩, 1, [⟨#[122]⟩]⟩] w4 (lit_row k4 rfl rfl ?_) rfl).mono ?_
  · intro x hx
    simp only [List.mem_cons, List.not_mem_nil, or_false] at hx
    rcases hx with rfl | rfl | rfl
    · exact lit_txt k1 rfl
    · exact lit_txt k2 rfl
    · exact lit_txt k3 rfl
  · rintro e w' ⟨p, c, d, he, ho, hm, hq⟩
    exact ⟨p, c, d, _, he, ho, hm, hb.trans (hq.mono hb.size)⟩

theorem fix_encode0 (w : World) : Calls Tryd.prog 18 #[.slice (some ⟨w.heap.size + 1, 0, none⟩) 1 1]
    ((w.alloc (.cells #[.string ⟨#[120]⟩, .string ⟨#[]⟩] 9)).alloc (.cells #[.string ⟨#[97]⟩, .slice (some ⟨w.heap.size, 0, none⟩) 2 2] 30))
    fun e w' => ∃ g c n0, e = .returned (.tuple #[.slice (some ⟨g, 0, none⟩) 7 c, .int .i64 0]) ∧ OwnB n0 w' (.slice (some ⟨g, 0, none⟩) 7 c) [1, 1, 97, 2, 1, 120, 0] ∧ Below w.heap.size w w' := by
  obtain ⟨w1, h1⟩ : ∃ w1, w.alloc (.cells #[.string ⟨#[120]⟩, .string ⟨#[]⟩] 9) = w1 := ⟨_, rfl⟩
  have s1 : w1.heap.size = w.heap.size + 1 := by rw [← h1]; simp
  rw [h1]
  obtain ⟨w4, h4⟩ : ∃ w4, w1.alloc (.cells #[.string ⟨#[97]⟩, .slice (some ⟨w.heap.size, 0, none⟩) 2 2] 30) = w4 := ⟨_, rfl⟩
  have k4 : w4.heap[w.heap.size + 1]? = some (.cells #[.string ⟨#[97]⟩, .slice (some ⟨w.heap.size, 0, none⟩) 2 2] 30 (0, 0)) := by
    rw [← h4, ← s1]; exact heap_alloc_new w1 _
  have k1 : w4.heap[w.heap.size]? = some (.cells #[.string ⟨#[120]⟩, .string ⟨#[]⟩] 9 (0, 0)) := by
    rw [← h4, Below.heap_alloc _ _ _ (by omega), ← h1]; exact heap_alloc_new w _
  have hb : Below w.heap.size w w4 := by
    rw [← h4, ← h1]
    exact ((Below.refl _ w).alloc (Nat.le_refl _) _).alloc (by simp) _
  rw [h4]
  refine (fix_encode _ [⟨⟨#[97]⟩, some ⟨w.heap.size, 0, none⟩, 2, [⟨#[120]⟩, ⟨#[]⟩]⟩] w4 (lit_row k4 rfl rfl ?_) rfl).mono ?_
  · intro x hx
    simp only [List.mem_cons, List.not_mem_nil, or_false] at hx
    rcases hx with rfl
    exact lit_txt k1 rfl
  · rintro e w' ⟨g, c, he, ho, hq⟩
    exact ⟨g, c, _, he, ho, hb.trans (hq.mono hb.size)⟩

theorem bel_then {B : Nat} {a b c : World} (h : Below B a b) (hB : B ≤ b.heap.size) (k : Below b.heap.size b c) : Below B a c := h.trans (k.mono hB)

set_option maxHeartbeats 4000000 in
set_option maxRecDepth 100000 in
theorem fixed_any (w : World) (hp : PlainAt w) : Calls Tryd.prog 6 #[] w fun e w' => e = .returned (.bool true) ∧ Below w.heap.size w w' := by
  have HP := hid hp
  clear hp
  go_enter Tryd.func6, Tryd.ntmps6
  go_wp2_with fail
  refine (fix_norm0 w).mono ?_
  rintro e w1 ⟨pN, cN, dN, nN, rfl, hoN, hmN, b1⟩
  have HON := hid hoN
  have HMN := hid hmN
  have HB1 := hid b1
  clear hoN hmN b1
  go_wp2_with fail
  refine (fix_print _ dN w1 (HP.out.on HB1.out) HON.out.is HMN.out).mono ?_
  rintro e w2 ⟨rfl, q2⟩
  have HQ2 := hid q2
  clear q2
  go_wp2_with fail
  refine (fix_encode0 w2).mono ?_
  rintro e w3 ⟨gE, cE, nE, rfl, hoE, q3⟩
  have HOE := hid hoE
  have HQ3 := hid q3
  clear hoE q3
  go_wp2_with fail
  refine (fix_decode gE cE nE w3 HOE.out).mono ?_
  rintro e w4 ⟨pD, cD, dD, rfl, hoD, hmD, q4⟩
  have HOD := hid hoD
  have HMD := hid hmD
  have HQ4 := hid q4
  clear hoD hmD q4
  have B4 : Hid (Below w.heap.size w w4) := by
    have h1 := HB1.out; have h2 := HQ2.out; have h3 := HQ3.out; have h4 := HQ4.out
    have g2 := bel_then h1 h1.size h2; have g3 := bel_then g2 g2.size h3; exact bel_then g3 g3.size h4
  have N4 : Hid (Below w1.heap.size w1 w4) := by
    have h2 := HQ2.out; have h3 := HQ3.out; have h4 := HQ4.out
    have g3 := bel_then h2 h2.size h3; exact bel_then g3 g3.size h4
  go_wp2_with fail
  refine (fix_parse w4 (HP.out.on B4.out)).mono ?_
  rintro e w5 ⟨pQ, cQ, dQ, rfl, hoQ, hmQ, q5⟩
  have HOQ := hid hoQ
  have HMQ := hid hmQ
  have HQ5 := hid q5
  clear hoQ hmQ q5
  have B5 : Hid (Below w.heap.size w w5) := bel_then B4.out B4.out.size HQ5.out
  have N5 : Hid (Below w1.heap.size w1 w5) := bel_then N4.out N4.out.size HQ5.out
  go_wp2_with fail
  refine (fix_readc w5 (HP.out.on B5.out)).mono ?_
  rintro e w6 ⟨rfl, q6⟩
  have HQ6 := hid q6
  clear q6
  go_wp2_with fail
  refine (fix_writec w6 (HP.out.on (bel_then B5.out B5.out.size HQ6.out))).mono ?_
  rintro e w7 ⟨rfl, q7⟩
  have S7 : Hid (Below w5.heap.size w5 w7) := bel_then HQ6.out HQ6.out.size q7
  clear q7
  have N7 : Hid (Below w1.heap.size w1 w7) := bel_then N5.out N5.out.size S7.out
  have HXN := hid (HON.out.on N7.out)
  go_wp2_with fail
  refine (fix_may _ dN w7 HXN.out.is HMN.out).mono ?_
  rintro e w8 ⟨rfl, q8⟩
  have S8 : Hid (Below w5.heap.size w5 w8) := bel_then S7.out S7.out.size q8
  clear q8
  have HXD := hid (HOD.out.on (bel_then HQ5.out HQ5.out.size S8.out))
  go_wp2_with fail
  refine (fix_size _ dD w8 HXD.out.is HMD.out).mono ?_
  rintro e w9 ⟨rfl, q9⟩
  have S9 : Hid (Below w5.heap.size w5 w9) := bel_then S8.out S8.out.size q9
  clear q9
  have HXQ := hid (HOQ.out.on S9.out)
  go_wp2_with fail
  refine (fix_equal _ dQ w9 HXQ.out.is HMQ.out).mono ?_
  rintro e w10 ⟨rfl, q10⟩
  have S10 : Hid (Below w5.heap.size w5 w10) := bel_then S9.out S9.out.size q10
  clear q10
  have HXM := hid (HON.out.on (bel_then N5.out N5.out.size S10.out))
  go_wp2_with fail
  refine (fix_textsc _ dN w10 HXM.out.is HMN.out).mono ?_
  rintro e w11 ⟨⟨pT, cT, rfl⟩, q11⟩
  have S11 : Hid (Below w5.heap.size w5 w11) := bel_then S10.out S10.out.size q11
  clear q11
  go_wp2_with fail
  go_ret
  exact ⟨rfl, bel_then B5.out B5.out.size S11.out⟩

end Go.Proofs.YtmjchokacmbkoabDoor

/-
  What Norm answers, by the fields alone: the program's and the reference's.
-/
namespace Go.Proofs.YtmjchokacmbkoabDoor
open Go.RowKit Go.Lib

/-- What Norm answers: the number, and the fields. -/
def codeF (fs : List Fld) : Int := if fs.any misB then 2 else if (normF fs).any bareB then 3 else if mayB (normF fs) then 0 else 5
def ansF (fs : List Fld) : List Fld := if codeF fs = 0 then normF fs else []

theorem codeF_zero {fs : List Fld} (h : codeF fs = 0) : fs.any misB = false ∧ (normF fs).any bareB = false ∧ mayB (normF fs) = true := by
  unfold codeF at h
  cases h1 : fs.any misB with
  | true => rw [h1] at h; simp at h
  | false =>
    cases h2 : (normF fs).any bareB with
    | true => rw [h1, h2] at h; simp at h
    | false =>
      cases h3 : mayB (normF fs) with
      | true => exact ⟨rfl, rfl, rfl⟩
      | false => rw [h1, h2, h3] at h; simp at h

theorem may_fit {d : List Fx} {fs : List Fld} (hmay : mayB fs = true) (hm : d.map Fx.fld = fs) : FitX d := by
  have hl := (may_parts hmay).1
  refine ⟨?_, fun x hx => ?_⟩
  · rw [← hm, List.length_map] at hl
    unfold maxLen; omega
  · have hx' : x.fld ∈ fs := by rw [← hm]; exact List.mem_map.2 ⟨x, hx, rfl⟩
    obtain ⟨h1, _, h3, h4, _⟩ := fits_parts (may_fits hmay _ hx')
    refine ⟨?_, ?_, fun t ht => ?_⟩
    · unfold maxLen; omega
    · unfold maxLen; omega
    · have := h4 t ht; unfold maxLen; omega

theorem ans_fit {d : List Fx} {fs : List Fld} (hm : d.map Fx.fld = ansF fs) : FitX d := by
  unfold ansF at hm
  split at hm
  · rename_i h
    exact may_fit (codeF_zero h).2.2 hm
  · rw [List.map_eq_nil_iff] at hm
    subst hm
    exact ⟨by unfold maxLen; simp, fun x hx => by simp at hx⟩

def NPost (w : World) (fs : List Fld) (e : Ending) (w' : World) : Prop :=
  (∃ u o, e = .returned (.tuple #[u, .int .i64 (codeF fs)]) ∧ OwnXs w.heap.size w' u o ∧ o.map Fx.fld = ansF fs) ∧ Below w.heap.size w w'

theorem own_none (N : Nat) (w : World) : OwnXs N w (.slice none 0 0) [] := ⟨World.ownsRow_nil _ _ _ _, fun x hx => by simp at hx⟩

theorem ansPlain {N : Nat} {fs : List Fld} {e : Ending} {w' : World}
    (h : (fs.any misB = true ∧ e = .returned (.tuple #[.slice none 0 0, .int .i64 2])) ∨
    (fs.any misB = false ∧
     (((normF fs).any bareB = true ∧ e = .returned (.tuple #[.slice none 0 0, .int .i64 3])) ∨
      ((normF fs).any bareB = false ∧ mayB (normF fs) = false ∧ e = .returned (.tuple #[.slice none 0 0, .int .i64 5])) ∨
      ((normF fs).any bareB = false ∧ mayB (normF fs) = true ∧ ∃ u o, e = .returned (.tuple #[u, .int .i64 0]) ∧ OwnXs N w' u o ∧ o.map Fx.fld = normF fs)))) :
    ∃ u o, e = .returned (.tuple #[u, .int .i64 (codeF fs)]) ∧ OwnXs N w' u o ∧ o.map Fx.fld = ansF fs := by
  rcases h with ⟨h1, rfl⟩ | ⟨h1, ⟨h2, rfl⟩ | ⟨h2, h3, rfl⟩ | ⟨h2, h3, u, o, rfl, ho, hm⟩⟩
  · have hc : codeF fs = 2 := by unfold codeF; rw [h1]; rfl
    exact ⟨_, [], by rw [hc], own_none _ _, by unfold ansF; rw [hc]; rfl⟩
  · have hc : codeF fs = 3 := by unfold codeF; rw [h1, h2]; rfl
    exact ⟨_, [], by rw [hc], own_none _ _, by unfold ansF; rw [hc]; rfl⟩
  · have hc : codeF fs = 5 := by unfold codeF; rw [h1, h2, h3]; rfl
    exact ⟨_, [], by rw [hc], own_none _ _, by unfold ansF; rw [hc]; rfl⟩
  · have hc : codeF fs = 0 := by unfold codeF; rw [h1, h2, h3]; rfl
    exact ⟨u, o, by rw [hc], ho, by unfold ansF; rw [hc]; exact hm⟩

theorem norm_plain (v : Value) (d : List Fx) (w : World) (hv : IsXs w v d) (hf : FitX d) (hl : d.length * 40 ≤ 140737488355328) (htot : totF (d.map Fx.fld) * 16 ≤ 140737488355328) :
    Calls Tryd.prog 7 #[v] w fun e w' => NPost w (d.map Fx.fld) e w' := by
  refine (norm_any v d w hv hf hl htot).mono fun e w' h => ⟨ansPlain ?_, h.2⟩
  rcases h.ans.plain with h | ⟨h1, h | h | ⟨h2, h3, u, o, h4, h5, h6⟩⟩
  · exact Or.inl h
  · exact Or.inr ⟨h1, Or.inl h⟩
  · exact Or.inr ⟨h1, Or.inr (Or.inl h)⟩
  · exact Or.inr ⟨h1, Or.inr (Or.inr ⟨h2, h3, u, o, h4, h5.1, h6⟩)⟩

theorem rnorm_plain (v : Value) (d : List Fx) (w : World) (hv : IsXs w v d) (hf : FitX d) (hl : d.length * 40 ≤ 140737488355328) (htot : totF (d.map Fx.fld) * 16 ≤ 140737488355328) :
    Calls Tryd.prog 13 #[v] w fun e w' => NPost w (d.map Fx.fld) e w' :=
  (rnorm_any v d w hv hf hl htot).mono fun _ _ h => ⟨ansPlain h.1, h.2⟩

end Go.Proofs.YtmjchokacmbkoabDoor

/-
  An append of a row that came in, whatever its length; a row of fields whose texts lie elsewhere.
-/
namespace Go.Proofs.YtmjchokacmbkoabDoor
open Go.RowKit Go.Lib

theorem grownBy_refl (w : World) (g : Option Nat) : w.grownBy w g := ⟨rfl, rfl, rfl, Nat.le_refl _, fun _ _ _ => rfl⟩

theorem wpList_append_rows {ops : Array Oper} {rest : List Oper} {o : Oper} {a : Act} {Q : Exit → Act → World → Prop} (w : World) (hgd : o.guard = none) (s x : Operand) (t : TypeId)
    (ho : o.op = .call { callee := .builtin .append, args := #[s, x], argTypes := #[t, t] })
    (base : Nat) (e : TypeId) (i : TypeInfo) (z : Value) (size bytes : Nat) (ht : Tryd.prog.underlying t = some (.slice e)) (hi : Tryd.prog.info? e = some i) (hz : i.zero = some z)
    (hsize : i.size = size) (hby : i.bytes = bytes) (hzs : z.cells.size = size) (hsz : 0 < size)
    (v : Value) (n : Nat) (xs : List Value) (hs : a.eval s = v) (hown : w.ownsRow base e size v n xs)
    (p : Option Addr) (m c : Nat) (news : List Value) (hx : a.eval x = .slice p m c) (hl : news.length = m * size)
    (hsrc : m = 0 ∨ ∃ ad, p = some ad ∧ ∀ j u, news[j]? = some u → w.cell? (ad.add j) = some u) (h1 : ∀ u ∈ news, u.oneCell' = true)
    (h63 : n + m ≤ maxLen) (hbytes : (n + m) * bytes ≤ 140737488355328) (hbase : base ≤ w.heap.size)
    (h : ∀ v' w', w'.ownsRow base e size v' (n + m) (xs ++ news) → w.grownBy w' v.ownBlock → wpList Tryd.prog ops Q rest (a.put o.dst v') w') :
    wpList Tryd.prog ops Q (o :: rest) a w := by
  rcases hsrc with rfl | ⟨ad, rfl, hc⟩
  · have hn : news = [] := List.length_eq_zero_iff.1 (by simpa using hl)
    subst hn
    obtain ⟨q, cap, hv, hcap, hq⟩ : ∃ q cap, v = .slice q n cap ∧ n ≤ cap ∧ (q = none → n = 0 ∧ cap = 0) := by
      rcases hown.2 with ⟨hv, h0⟩ | ⟨g, cap, cur, hv, _, _, hc, _⟩
      · exact ⟨none, 0, by rw [hv, h0], by omega, fun _ => ⟨h0, rfl⟩⟩
      · exact ⟨_, cap, hv, hc, fun h => by cases h⟩
    have hrun : (Builtin.append_ #[t, t] o.type #[.slice q n cap, .slice p 0 c]).run Tryd.prog w = .ok (.slice q n cap) w := by
      cases q with
      | none =>
        obtain ⟨rfl, rfl⟩ := hq rfl
        cases p <;> simp [Builtin.append_, run_underlying ht, Builtin.lenOf, Builtin.firstCells, sizeOf, typeInfo, hi, loadCells, loadCellsFrom]
      | some q =>
        cases p <;> simp [Builtin.append_, run_underlying ht, Builtin.lenOf, Builtin.firstCells, sizeOf, typeInfo, hi, storeCells, loadCells, loadCellsFrom, hcap]
    rw [hv] at hs
    refine wpList_plain hgd fun K hK' => ?_
    unfold Oper.wp
    simp [execOp, ho, resolve, invoke, builtin, hs, hx, hrun, Result.andThen]
    refine hK' _ _ (h _ _ ?_ (grownBy_refl _ _))
    rw [← hv, List.append_nil]
    exact hown
  · exact wpList_append_own _ hgd s x t ho base e i z size bytes ht hi hz hsize hby hzs hsz v n xs hs hown ad m c news hx hl hc h1 h63 hbytes hbase (fun v' w' h2 h3 _ => h v' w' h2 h3)

/-- v owns a row of the fields d, in a block at or behind n0; their texts lie anywhere. -/
def RowX (n0 : Nat) (w : World) (v : Value) (d : List Fx) : Prop := w.ownsRow n0 30 2 v d.length (cellsX d)

theorem RowX.is {n0 : Nat} {w : World} {v : Value} {d : List Fx} (h1 : RowX n0 w v d) (h2 : ∀ x ∈ d, x.at w) : IsXs w v d := by
  rcases h1.2 with ⟨rfl, h0⟩ | ⟨g, c, cur, rfl, _, hg, _, _, hsz, htk⟩
  · obtain rfl := List.length_eq_zero_iff.1 h0
    exact ⟨none, 0, rfl, Or.inl rfl, fun x hx => by simp at hx⟩
  · refine ⟨_, c, rfl, Or.inr ⟨g, 0, rfl, fun i hi => ?_⟩, h2⟩
    obtain ⟨c0, c1⟩ := cellsX_get d i hi
    have e : ∀ j, j < d.length * 2 → (cellsX d)[j]? = cur[j]? := fun j hj => by
      rw [← htk, List.getElem?_take, if_pos hj, Array.getElem?_toList]
    rw [Nat.zero_add, cell_of_row w g _ cur _ _ hg, cell_of_row w g _ cur _ _ hg, ← e _ (by omega), ← e _ (by omega)]
    exact ⟨c0, c1⟩

/-- What a slice of fields gives an append. -/
theorem src_xs {w : World} {p : Option Addr} {d : List Fx} (h : d = [] ∨ ∃ b off, p = some ⟨b, off, none⟩ ∧ XsAt w b off d) :
    d.length = 0 ∨ ∃ ad, p = some ad ∧ ∀ j u, (cellsX d)[j]? = some u → w.cell? (ad.add j) = some u := by
  rcases h with rfl | ⟨b, off, rfl, hx⟩
  · exact Or.inl rfl
  · refine Or.inr ⟨_, rfl, fun j u hu => ?_⟩
    have hj : j < d.length * 2 := by
      have := (List.getElem?_eq_some_iff.1 hu).1
      rwa [cellsX_len] at this
    have hk : j / 2 < d.length := by omega
    obtain ⟨c0, c1⟩ := cellsX_get d (j / 2) hk
    obtain ⟨m0, m1⟩ := hx (j / 2) hk
    rw [addr_add]
    by_cases e : j % 2 = 0
    · have ej : j = j / 2 * 2 := by omega
      rw [ej] at hu ⊢
      rw [c0] at hu
      rw [m0]; exact hu
    · have ej : j = j / 2 * 2 + 1 := by omega
      rw [ej] at hu ⊢
      rw [c1] at hu
      rw [← Nat.add_assoc, m1]; exact hu

/-- What a slice of texts gives an append. -/
theorem src_ts {w : World} {p : Option Addr} {ts : List ByteArray} (h : TxtAt w p ts) :
    ts.length = 0 ∨ ∃ ad, p = some ad ∧ ∀ j u, (ts.map Value.string)[j]? = some u → w.cell? (ad.add j) = some u := by
  rcases h with rfl | ⟨b, off, rfl, hx⟩
  · exact Or.inl rfl
  · refine Or.inr ⟨_, rfl, fun j u hu => ?_⟩
    have hj : j < ts.length := by simpa using (List.getElem?_eq_some_iff.1 hu).1
    rw [addr_add, hx j hj]
    rw [List.getElem?_map, List.getElem?_eq_getElem hj] at hu
    exact hu

theorem txts_one (ts : List ByteArray) : ∀ u ∈ ts.map Value.string, u.oneCell' = true := by
  intro u hu
  obtain ⟨t, _, rfl⟩ := List.mem_map.1 hu
  rfl

/-- What the reference's Texts answers. -/
def RtPost (w : World) (ts : List ByteArray) (e : Ending) (w' : World) : Prop := (∃ p c, e = .returned (.slice p ts.length c) ∧ TxtAt w p ts) ∧ w' = w

set_option maxHeartbeats 2000000 in
set_option maxRecDepth 100000 in
theorem rtexts_any (v : Value) (nm : ByteArray) (d : List Fx) (w : World) (hv : IsXs w v d) (hf : FitX d) :
    Calls Tryd.prog 12 #[v, .string nm] w fun e w' => RtPost w (textsOf (d.map Fx.fld) nm) e w' := by
  obtain ⟨p, cap, rfl, hd, ht⟩ := hv
  have HT := hid ht
  have HD := hid hd
  have hl := hf.1
  unfold maxLen at hl
  clear ht hd hf
  go_enter Tryd.func12, Tryd.ntmps12
  go_wp2_with fail
  go_loopg [5] d.length (fun g vi wr => ∃ i : Nat, vi = .int .i64 i ∧ i ≤ d.length ∧ d.length - i ≤ g ∧ w = wr ∧ Hid (∀ j (h : j < d.length), j < i → d[j].name ≠ nm))
  case atStart => exact ⟨0, rfl, by omega, by omega, rfl, fun j _ h => by omega⟩
  case round =>
    obtain ⟨i, rfl, hi, hg, rfl, HJ⟩ := hrel
    by_cases hlt : i < d.length
    · have hltz : (i : Int) < (d.length : Int) := by omega
      have hiz : (0 : Int) ≤ i := by omega
      obtain ⟨b, off, rfl, hxs⟩ : ∃ b off, p = some ⟨b, off, none⟩ ∧ XsAt w b off d := by
        rcases HD.out with h | h
        · subst h; simp at hlt
        · exact h
      obtain ⟨c0, c1⟩ := hxs i hlt
      have hxi : (d[i]).at w := HT.out _ (List.getElem_mem hlt)
      have hyes : d[i].name = nm → textsOf (d.map Fx.fld) nm = d[i].txt := fun e => by
        have := textsOf_at (d.map Fx.fld) nm i (by rw [List.length_map]; exact hlt) (fun j hj => by simp only [List.getElem_map]; exact HJ.out j (by omega) hj) (by simp only [List.getElem_map]; exact e)
        simpa [Fx.fld] using this
      have hnx : d[i].name ≠ nm → ∀ j (h : j < d.length), j < i + 1 → d[j].name ≠ nm := fun e j h hj => by
        by_cases ej : j = i
        · subst ej; exact e
        · exact HJ.out j h (by omega)
      obtain ⟨x, hx⟩ : ∃ x, d[i] = x := ⟨_, rfl⟩
      rw [hx] at c0 c1 hxi hyes hnx
      have HXI := hid hxi
      have HYES := hid hyes
      have HNX := hid hnx
      clear hxs hxi hx hyes hnx
      unfold Fx.sl at c1
      cases hq : (x.name.toList == nm.toList) with
      | true =>
        have hq2 : x.name = nm := by rw [toList_eq, decide_eq_true_eq] at hq; exact hq
        have HQ := hid (HYES.out hq2)
        clear hq2
        go_wp2_with fail
        go_ret
        rw [HQ.out]
        exact ⟨⟨_, _, rfl, HXI.out⟩, rfl⟩
      | false =>
        have hq2 : x.name ≠ nm := by rw [toList_eq, decide_eq_false_iff_not] at hq; exact hq
        have HQ := hid (HNX.out hq2)
        clear hq2
        go_wp2_with fail
        go_roundg (d.length - (i + 1))
        case measure => omega
        exact ⟨i + 1, by go_num, by omega, by omega, rfl, HQ.out⟩
    · have hltz : ¬ (i : Int) < (d.length : Int) := by omega
      have H0 : Hid (textsOf (d.map Fx.fld) nm = []) := textsOf_no _ _ (fun j hj => by
        rw [List.length_map] at hj
        simp only [List.getElem_map]
        exact HJ.out j hj (by omega))
      go_wp2_with fail
      go_ret
      rw [H0.out]
      exact ⟨⟨none, 0, rfl, Or.inl rfl⟩, rfl⟩

end Go.Proofs.YtmjchokacmbkoabDoor

/-
  How long a value's bytes are, and how many blanks its line has.
-/
namespace Go.Proofs.YtmjchokacmbkoabDoor
open Go.RowKit Go.Lib

/-- What ValueSizes counts. -/
def cntF (f : Fld) : Nat := 2 + f.1.size + (f.2.map fun t => 1 + t.size).sum
def cntB (fs : List Fld) : Nat := 1 + (fs.map cntF).sum

theorem encTs_len (ts : List ByteArray) : (ts.flatMap encT).length = (ts.map fun t => 1 + t.size).sum := by
  induction ts with
  | nil => rfl
  | cons t ts ih =>
    rw [List.flatMap_cons, List.length_append, encT_len, ih, List.map_cons, List.sum_cons]
    omega

theorem encF_cnt (f : Fld) : (encF f).length = cntF f := by
  unfold encF cntF
  rw [List.length_append, List.length_append, encT_len, encTs_len]
  simp only [List.length_cons, List.length_nil]
  omega

theorem encL_cnt (fs : List Fld) : (encL fs).length = cntB fs := by
  unfold encL cntB
  rw [List.length_cons]
  have : (fs.flatMap encF).length = (fs.map cntF).sum := by
    induction fs with
    | nil => rfl
    | cons f fs ih => rw [List.flatMap_cons, List.length_append, encF_cnt, ih, List.map_cons, List.sum_cons]
  omega

/-- The blanks of a text. -/
def blanks (l : List UInt8) : Nat := l.countP fun c => c == 32

theorem blanks_append (a b : List UInt8) : blanks (a ++ b) = blanks a + blanks b := List.countP_append ..

theorem blanks_join : ∀ ws : List (List UInt8), (∀ w ∈ ws, blanks w = 0) → blanks (Lib.join ws [32]) = ws.length - 1
  | [], _ => rfl
  | [w], h => by
    have := h w (by simp)
    simpa [Lib.join] using this
  | w :: v :: ws, h => by
    have h1 := h w (by simp)
    have ih := blanks_join (v :: ws) (fun x hx => h x (by simp [hx]))
    have e : Lib.join (w :: v :: ws) [32] = w ++ [32] ++ Lib.join (v :: ws) [32] := by simp [Lib.join]
    rw [e, blanks_append, blanks_append, h1, ih]
    simp [blanks]
    omega

theorem field_noblank {l : List UInt8} (h : fieldB l = true) : blanks l = 0 := by
  unfold blanks
  rw [List.countP_eq_zero]
  intro c hc
  unfold fieldB spell at h
  cases l with
  | nil => simp at hc
  | cons x r =>
    simp only [Bool.and_eq_true, List.all_eq_true] at h
    have key : lodB (c.toNat : Int) = true ∨ smallB (c.toNat : Int) = true := by
      rcases List.mem_cons.1 hc with rfl | hc
      · exact Or.inr h.1.2
      · exact Or.inl (h.2 c hc)
    intro e
    have e : c = 32 := by simpa using e
    subst e
    rcases key with k | k
    · revert k; decide
    · revert k; decide

theorem hexd_noblank (k : Nat) (h : k < 16) : (hexd k == 32) = false := by
  have t : ((List.range 16).all fun k => !(hexd k == 32)) = true := by decide
  have := List.all_eq_true.1 t k (List.mem_range.2 h)
  simpa using this

theorem write_noblank (l : List UInt8) : blanks (writeL l) = 0 := by
  induction l with
  | nil => rfl
  | cons c l ih =>
    rw [writeL_cons, blanks_append, ih]
    unfold writeC
    cases hp : plainB (c.toNat : Int) with
    | true =>
      have : (c == 32) = false := by
        rw [beq_eq_false_iff_ne]
        intro e
        subst e
        revert hp; decide
      simp [blanks, this]
    | false =>
      have hc := c.toNat_lt
      simp [blanks, hexd_noblank (c.toNat / 16) (by omega), hexd_noblank (c.toNat % 16) (by omega)]

theorem word_data (n t : ByteArray) : (wordOf n t).data.toList = n.data.toList ++ [61] ++ writeL t.data.toList := by
  unfold wordOf
  obtain ⟨⟨n⟩⟩ := n
  simp

theorem word_noblank {n t : ByteArray} (h : fieldB n.data.toList = true) : blanks (wordOf n t).data.toList = 0 := by
  rw [word_data, blanks_append, blanks_append, field_noblank h, write_noblank]
  rfl

theorem words_cnt (fs : List Fld) : (wordsL fs).length = totF fs := by
  unfold wordsL totF
  induction fs with
  | nil => rfl
  | cons f fs ih => rw [List.flatMap_cons, List.length_append, ih]; simp [wordsF]

theorem line_blanks {fs : List Fld} (h : mayB fs = true) : blanks (lineOf fs).data.toList = totF fs - 1 := by
  unfold lineOf
  show blanks (Lib.join ((wordsL fs).map (·.data.toList)) [32]).toArray.toList = _
  rw [List.toList_toArray, blanks_join, List.length_map, words_cnt]
  intro w hw
  obtain ⟨x, hx, rfl⟩ := List.mem_map.1 hw
  obtain ⟨f, hf, hx⟩ := List.mem_flatMap.1 hx
  obtain ⟨t, _, rfl⟩ := List.mem_map.1 hx
  exact word_noblank (fits_parts (may_fits h f hf)).2.2.2.2

theorem line_empty (fs : List Fld) : (lineOf fs).size = 0 ↔ totF fs = 0 := by
  have e : (lineOf fs).size = (Lib.join ((wordsL fs).map (·.data.toList)) [32]).length := by
    show (Lib.join ((wordsL fs).map (·.data.toList)) [32]).toArray.size = _
    simp
  rw [e, ← words_cnt]
  cases hw : wordsL fs with
  | nil => simp [Lib.join, List.intercalate]
  | cons x r =>
    have hx : x ∈ wordsL fs := by rw [hw]; simp
    obtain ⟨f, hf, hx⟩ := List.mem_flatMap.1 hx
    obtain ⟨t, _, rfl⟩ := List.mem_map.1 hx
    have hl : 0 < (wordOf f.1 t).data.toList.length := by rw [word_data]; simp; omega
    constructor
    · intro h
      exfalso
      cases r with
      | nil =>
        rw [List.map_cons, List.map_nil, Lib.join_one] at h
        omega
      | cons y r =>
        have : Lib.join ((wordOf f.1 t :: y :: r).map (·.data.toList)) [32] = (wordOf f.1 t).data.toList ++ [32] ++ Lib.join ((y :: r).map (·.data.toList)) [32] := by simp [Lib.join]
        rw [this] at h
        simp at h
    · intro h; simp at h

theorem join_size (c : Nat) : ∀ ws : List (List UInt8), (∀ w ∈ ws, w.length ≤ c) → (Lib.join ws [32]).length ≤ ws.length * (c + 1)
  | [], _ => by simp [Lib.join, List.intercalate]
  | [w], h => by
    have := h w (by simp)
    rw [Lib.join_one]
    simp
    omega
  | w :: v :: ws, h => by
    have h1 := h w (by simp)
    have ih := join_size c (v :: ws) (fun x hx => h x (by simp [hx]))
    have e : Lib.join (w :: v :: ws) [32] = w ++ [32] ++ Lib.join (v :: ws) [32] := by simp [Lib.join]
    have e2 : (w :: v :: ws).length * (c + 1) = (v :: ws).length * (c + 1) + (c + 1) := by rw [List.length_cons, Nat.add_mul, Nat.one_mul]
    have e3 : ([32] : List UInt8).length = 1 := rfl
    rw [e, List.length_append, List.length_append, e2, e3]
    omega

theorem line_size {fs : List Fld} (h : mayB fs = true) : (lineOf fs).size ≤ 53504 := by
  have e : (lineOf fs).size = (Lib.join ((wordsL fs).map (·.data.toList)) [32]).length := by
    show (Lib.join ((wordsL fs).map (·.data.toList)) [32]).toArray.size = _
    simp
  have h1 := join_size 417 ((wordsL fs).map (·.data.toList)) (fun w hw => by
    obtain ⟨x, hx, rfl⟩ := List.mem_map.1 hw
    obtain ⟨f, hf, hx⟩ := List.mem_flatMap.1 hx
    obtain ⟨t, ht, rfl⟩ := List.mem_map.1 hx
    simpa using word_len (may_fits h f hf) ht)
  have h2 := wordsL_len (fun f hf => may_fits h f hf) (may_parts h).1
  rw [List.length_map] at h1
  have h3 : (wordsL fs).length * (417 + 1) ≤ 128 * (417 + 1) := Nat.mul_le_mul_right _ h2
  omega

theorem cnt_small {fs : List Fld} (h : mayB fs = true) (i : Nat) : 1 + ((fs.take i).map cntF).sum ≤ 17057 := by
  have h1 : ((fs.take i).map cntF).sum = ((fs.take i).flatMap encF).length := by
    generalize fs.take i = gs
    induction gs with
    | nil => rfl
    | cons f gs ih => rw [List.flatMap_cons, List.length_append, encF_cnt, ← ih, List.map_cons, List.sum_cons]
  have := enc_ahead h i
  omega

theorem tot_small {fs : List Fld} (h : mayB fs = true) (i : Nat) : totF (fs.take i) ≤ 128 := by
  rw [← words_cnt]
  refine wordsL_len (fun f hf => may_fits h f (List.mem_of_mem_take hf)) ?_
  have := (may_parts h).1
  rw [List.length_take]
  omega

end Go.Proofs.YtmjchokacmbkoabDoor

/-
  What ValueKeeps makes and writes: rows with spare room, and fields that are written over.
-/
namespace Go.Proofs.YtmjchokacmbkoabDoor
open Go.RowKit Go.Lib

theorem Tryd.infoTs : (Tryd.prog.info? 28).map (fun i => (i.zero, i.size, i.bytes)) = some (some (.slice none 0 0), 1, 24) := by kernel_rfl

def markA : ByteArray := ⟨#[109, 97, 114, 107]⟩

/-- The texts of x lie in a block of their own at or behind N, with two cells of spare room: the mark, and nothing. -/
def RoomAt (N : Nat) (W : World) (x : Fx) : Prop :=
  ∃ g, x.p = some ⟨g, 0, none⟩ ∧ x.cap = x.txt.length + 2 ∧ N ≤ g ∧ W.heap[g]? = some (.cells (x.txt.map Value.string ++ [Value.string markA, Value.string ⟨#[]⟩]).toArray 9 (0, 0))

theorem RoomAt.on {N : Nat} {W W' : World} {x : Fx} (h : RoomAt N W x) (hb : Below W.heap.size W W') : RoomAt N W' x := by
  obtain ⟨g, h1, h2, h3, h4⟩ := h
  exact ⟨g, h1, h2, h3, (hb.block g (Array.getElem?_eq_some_iff.1 h4).1).trans h4⟩

theorem RoomAt.else {N m0 : Nat} {W W' : World} {x : Fx} {e : TypeId} {size : Nat} {u : Value} {m : Nat} {ys : List Value} (h : RoomAt N W x) (hu : W.ownsRow m0 e size u m ys) (hne : e ≠ 9) (hg : W.grownBy W' u.ownBlock) : RoomAt N W' x := by
  obtain ⟨g, h1, h2, h3, h4⟩ := h
  refine ⟨g, h1, h2, h3, (hg.block g (Array.getElem?_eq_some_iff.1 h4).1 fun e2 => ?_).trans h4⟩
  obtain ⟨cs', h5⟩ := own_type hu e2.symm
  rw [h4] at h5
  injection h5 with h5
  injection h5 with _ h5
  exact hne h5.symm

theorem RoomAt.at {N : Nat} {W : World} {x : Fx} (h : RoomAt N W x) : x.at W := by
  obtain ⟨g, h1, _, _, h4⟩ := h
  refine Or.inr ⟨g, 0, h1, fun i hi => ?_⟩
  rw [Nat.zero_add, cell_of_row W g i _ _ _ h4]
  simp [List.getElem?_append, hi]

theorem RoomAt.mark {N : Nat} {W : World} {x : Fx} (h : RoomAt N W x) : ∃ g, x.p = some ⟨g, 0, none⟩ ∧ x.cap = x.txt.length + 2 ∧ W.cell? ⟨g, x.txt.length, none⟩ = some (.string markA) := by
  obtain ⟨g, h1, h2, _, h4⟩ := h
  refine ⟨g, h1, h2, ?_⟩
  rw [cell_of_row W g _ _ _ _ h4]
  simp

/-- What the first loop has made. -/
structure Ins (w : World) (e : List Fx) (vi vr : Value) (W : World) : Prop where
  row : RowX w.heap.size W vi e
  rooms : W.ownsRow w.heap.size 28 1 vr e.length (e.map Fx.sl)
  each : ∀ x ∈ e, RoomAt w.heap.size W x
  bel : Below w.heap.size w W

theorem Ins.on {w W W' : World} {e : List Fx} {vi vr : Value} (h : Ins w e vi vr W) (hb : Below W.heap.size W W') : Ins w e vi vr W' :=
  ⟨own_on h.row hb, own_on h.rooms hb, fun x hx => (h.each x hx).on hb, h.bel.trans (hb.mono h.bel.size)⟩

theorem Ins.is {w W : World} {e : List Fx} {vi vr : Value} (h : Ins w e vi vr W) : IsXs W vi e := h.row.is fun x hx => (h.each x hx).at

/-- The cells of a new room, the texts copied and the mark set. -/
theorem room_cells (ts : List ByteArray) : ((splice (List.replicate (ts.length + 2) (Value.string ⟨#[]⟩)) 0 (ts.map Value.string)).toArray.setIfInBounds ts.length (.string markA)) = (ts.map Value.string ++ [Value.string markA, Value.string ⟨#[]⟩]).toArray := by
  apply Array.toList_inj.1
  rw [Array.toList_setIfInBounds]
  simp only [splice, List.take_zero, List.nil_append, List.length_map, Nat.zero_add, List.drop_replicate]
  rw [show ts.length + 2 - ts.length = 2 by omega, List.set_append_right _ _ (by simp)]
  simp

theorem made_strs (n : Nat) : madeCells (Value.string ⟨#[]⟩).cells ((n + 2) * 1) = (List.replicate (n + 2) (Value.string ⟨#[]⟩)).toArray := by
  apply Array.toList_inj.1
  apply List.ext_getElem
  · simp [madeCells]
  · intro i h1 h2
    simp [madeCells, Value.cells]
    rw [Nat.mod_one]
    rfl

theorem own_same {w w' : World} {n0 : Nat} {e : TypeId} {size : Nat} {v : Value} {n : Nat} {xs : List Value} (h : w.ownsRow n0 e size v n xs) (hk : ∀ k, v.ownBlock = some k → w'.heap[k]? = w.heap[k]?) : w'.ownsRow n0 e size v n xs := by
  refine ⟨h.1, ?_⟩
  rcases h.2 with h2 | ⟨g, cap, cur, hv, h3, h4, h5⟩
  · exact Or.inl h2
  · exact Or.inr ⟨g, cap, cur, hv, h3, (hk g (by rw [hv]; rfl)).trans h4, h5⟩

/-- Blocks ahead of A, and from B up to C, are as they were. -/
structure KeptZ (A B C : Nat) (we W : World) : Prop where
  os : W.os = we.os
  tape : W.tape = we.tape
  output : W.output = we.output
  size : C ≤ W.heap.size
  block : ∀ k, k < C → (k < A ∨ B ≤ k) → W.heap[k]? = we.heap[k]?

def ZoneV (B C : Nat) (v : Value) : Prop := ∀ k, v.ownBlock = some k → k < B ∨ C ≤ k

theorem KeptZ.grown {A B C : Nat} {we W W' : World} {ob : Option Nat} (h : KeptZ A B C we W) (hg : W.grownBy W' ob) (hz : ∀ k, ob = some k → A ≤ k ∧ (k < B ∨ C ≤ k)) : KeptZ A B C we W' :=
  ⟨hg.os.trans h.os, hg.tape.trans h.tape, hg.output.trans h.output, Nat.le_trans h.size hg.size, fun k hk hz2 => (hg.block k (Nat.lt_of_lt_of_le hk h.size) fun e => by
    have := hz k e.symm
    omega).trans (h.block k hk hz2)⟩

theorem grown_alloc (w : World) (o : Obj) : w.grownBy (w.alloc o) none := by
  have := (Below.refl w.heap.size w).alloc (Nat.le_refl _) o
  exact ⟨this.os, this.tape, this.output, this.size, fun k hk _ => this.block k hk⟩

theorem KeptZ.below {A B C : Nat} {we W : World} (h : KeptZ A B C we W) (hAC : A ≤ C) (hC : we.heap.size ≤ C) : Below A we W :=
  ⟨h.os, h.tape, h.output, Nat.le_trans hC h.size, fun k hk => h.block k (by omega) (Or.inl hk)⟩

/-- The fields o, written over in place. -/
structure XSt (A B C : Nat) (we : World) (u : Value) (o : List Fx) (W : World) : Prop where
  own : OwnJ A W u o
  zu : ZoneV B C u
  zo : ∀ x ∈ o, ZoneV B C x.sl
  kept : KeptZ A B C we W

theorem cellsX_set (o : List Fx) (i : Nat) (h : i < o.length) (x : Fx) : cellsX (o.set i x) = ((cellsX o).set (i * 2) (.string x.name)).set (i * 2 + 1) x.sl := by
  induction o generalizing i with
  | nil => simp at h
  | cons y o ih =>
    have e : ∀ z l, cellsX (z :: l) = .string z.name :: z.sl :: cellsX l := fun _ _ => rfl
    cases i with
    | zero => rw [List.set_cons_zero, e, e]; rfl
    | succ i =>
      rw [List.set_cons_succ, e, e, ih i (by simpa using h), show (i + 1) * 2 = i * 2 + 1 + 1 by omega]
      rfl

theorem apart_ne {o : List Fx} (h : Apart o) {i j : Nat} (hi : i < o.length) (hj : j < o.length) (hne : i ≠ j) : (o[i]).sl.ownBlock = none ∨ (o[i]).sl.ownBlock ≠ (o[j]).sl.ownBlock := by
  have hp := List.pairwise_iff_getElem.1 h
  rcases Nat.lt_or_gt_of_ne hne with hl | hl
  · exact hp i j hi hj hl
  · rcases hp j i hj hi hl with h1 | h1
    · rcases hb : (o[i]).sl.ownBlock with _ | k
      · exact Or.inl rfl
      · right; rw [h1]; simp
    · exact Or.inr (Ne.symm h1)

theorem apart_set {o : List Fx} (h : Apart o) {i : Nat} (_hi : i < o.length) {x : Fx} (hx : ∀ j, (hj : j < o.length) → j ≠ i → (o[j]).sl.ownBlock = none ∨ (o[j]).sl.ownBlock ≠ x.sl.ownBlock) : Apart (o.set i x) := by
  have hp := List.pairwise_iff_getElem.1 h
  refine List.pairwise_iff_getElem.2 fun a b ha hb hab => ?_
  rw [List.length_set] at ha hb
  rw [List.getElem_set, List.getElem_set]
  by_cases h1 : i = a
  · subst h1
    rw [if_pos rfl, if_neg (by omega)]
    rcases hx b hb (by omega) with h2 | h2
    · rcases hq : x.sl.ownBlock with _ | k
      · exact Or.inl rfl
      · right; rw [h2]; simp
    · exact Or.inr (Ne.symm h2)
  · rw [if_neg h1]
    by_cases h2 : i = b
    · subst h2
      rw [if_pos rfl]
      exact hx a ha (by omega)
    · rw [if_neg h2]
      exact hp a b ha hb hab

/-- The row of fields u has its block. -/
theorem XSt.shape {A B C : Nat} {we W : World} {u : Value} {o : List Fx} (h : XSt A B C we u o W) (hpos : 0 < o.length) : ∃ g c, u = .slice (some ⟨g, 0, none⟩) o.length c := by
  rcases h.own.1.1.2 with ⟨_, h0⟩ | ⟨g, c, cur, hv, _⟩
  · omega
  · exact ⟨g, c, hv⟩

/-- What can be read of the field i, and that it can be written. -/
theorem XSt.cells {A B C : Nat} {we W : World} {g c n : Nat} {o : List Fx} (h : XSt A B C we (.slice (some ⟨g, 0, none⟩) n c) o W) (hn : o.length = n) {i : Nat} (hi : i < o.length) :
    W.cell? ⟨g, i * 2, none⟩ = some (.string (o[i]).name) ∧ W.cell? ⟨g, i * 2 + 1, none⟩ = some (o[i]).sl ∧ W.frozen? ⟨g, i * 2, none⟩ = false ∧ W.frozen? ⟨g, i * 2 + 1, none⟩ = false := by
  subst hn
  have hrow := h.own.1.1
  obtain ⟨h1, h2⟩ := cellsX_get o i hi
  exact ⟨by rw [hrow.cellAt _ (by omega)]; exact h1, by rw [hrow.cellAt _ (by omega)]; exact h2, hrow.frozenAt _, hrow.frozenAt _⟩

theorem sl_lt {A : Nat} {W : World} {x : Fx} (h : OwnT A W x.sl x.txt) : ∀ k, x.sl.ownBlock = some k → A ≤ k := fun k hk => (World.ownsRow.lt h k hk).1

/-- One text is written over. -/
theorem XSt.wipe {A B C : Nat} {we W : World} {u : Value} {o : List Fx} (h : XSt A B C we u o W) {i : Nat} (hi : i < o.length) {j gt : Nat} (hp : (o[i]).p = some ⟨gt, 0, none⟩) (t : ByteArray) :
    XSt A B C we u (o.set i ⟨(o[i]).name, (o[i]).p, (o[i]).cap, (o[i]).txt.set j t⟩) (W.setCell ⟨gt, j, none⟩ (.string t)) := by
  have hti := h.own.1.2 _ (List.getElem_mem hi)
  have hbi : (o[i]).sl.ownBlock = some gt := by unfold Fx.sl; rw [hp]; rfl
  have hg : W.grownBy (W.setCell ⟨gt, j, none⟩ (.string t)) (o[i]).sl.ownBlock := by rw [hbi]; exact grown_set W gt j _
  have hsl : (⟨(o[i]).name, (o[i]).p, (o[i]).cap, (o[i]).txt.set j t⟩ : Fx).sl = (o[i]).sl := by unfold Fx.sl; simp
  have hnew : OwnT A (W.setCell ⟨gt, j, none⟩ (.string t)) (o[i]).sl ((o[i]).txt.set j t) := by
    have e : (o[i]).sl = .slice (some ⟨gt, 0, none⟩) (o[i]).txt.length (o[i]).cap := by unfold Fx.sl; rw [hp]
    have h1 : W.ownsRow A 9 1 (.slice (some ⟨gt, 0, none⟩) (o[i]).txt.length (o[i]).cap) (o[i]).txt.length ((o[i]).txt.map Value.string) := by rw [← e]; exact hti
    have h2 := (h1.stored j (.string t)).1
    unfold OwnT
    rw [e, List.length_set, List.map_set]
    exact h2
  refine ⟨⟨⟨?_, fun x hx => ?_⟩, ?_⟩, h.zu, fun x hx => ?_, h.kept.grown hg fun k hk => ⟨sl_lt hti k hk, h.zo _ (List.getElem_mem hi) k hk⟩⟩
  · rw [List.length_set, cellsX_set _ _ hi, hsl]
    obtain ⟨c0, c1⟩ := cellsX_get o i hi
    have e1 : ((cellsX o).set (i * 2) (.string (o[i]).name)).set (i * 2 + 1) (o[i]).sl = cellsX o := by
      apply List.ext_getElem?
      intro q
      rw [List.getElem?_set, List.getElem?_set]
      simp only [List.length_set]
      have hl := cellsX_len o
      split
      · rename_i hq; subst hq; rw [if_pos (by omega)]; exact c1.symm
      · split
        · rename_i hq; subst hq; rw [if_pos (by omega)]; exact c0.symm
        · rfl
    rw [e1]
    exact own_else h.own.1.1 hti (by decide) hg
  · obtain ⟨q, hq, rfl⟩ := List.mem_iff_getElem.1 hx
    rw [List.length_set] at hq
    rw [List.getElem_set]
    by_cases e : i = q
    · rw [if_pos e, hsl]; exact hnew
    · rw [if_neg e]
      exact World.ownsRow.kept (h.own.1.2 _ (List.getElem_mem hq)) hg (apart_ne h.own.2 hq hi (by omega))
  · refine apart_set h.own.2 hi fun q hq hne => ?_
    rw [hsl]
    exact apart_ne h.own.2 hq hi hne
  · obtain ⟨q, hq, rfl⟩ := List.mem_iff_getElem.1 hx
    rw [List.length_set] at hq
    rw [List.getElem_set]
    by_cases e : i = q
    · rw [if_pos e, hsl]; exact h.zo _ (List.getElem_mem hi)
    · rw [if_neg e]; exact h.zo _ (List.getElem_mem hq)

/-- The name is written over. -/
theorem XSt.rename {A B C : Nat} {we W : World} {g c n : Nat} {o : List Fx} (h : XSt A B C we (.slice (some ⟨g, 0, none⟩) n c) o W) (hn : o.length = n) {i : Nat} (hi : i < o.length) (nm : ByteArray) :
    XSt A B C we (.slice (some ⟨g, 0, none⟩) n c) (o.set i ⟨nm, (o[i]).p, (o[i]).cap, (o[i]).txt⟩) (W.setCell ⟨g, i * 2, none⟩ (.string nm)) := by
  subst hn
  have hrow := h.own.1.1
  have hg : W.grownBy (W.setCell ⟨g, i * 2, none⟩ (.string nm)) (Value.slice (some ⟨g, 0, none⟩) o.length c).ownBlock := grown_set W g _ _
  have hsl : (⟨nm, (o[i]).p, (o[i]).cap, (o[i]).txt⟩ : Fx).sl = (o[i]).sl := rfl
  refine ⟨⟨⟨?_, fun x hx => ?_⟩, ?_⟩, h.zu, fun x hx => ?_, h.kept.grown hg fun k hk => ⟨(World.ownsRow.lt hrow k hk).1, h.zu k hk⟩⟩
  · have hst := (hrow.stored (i * 2) (.string nm)).1
    rw [List.length_set, cellsX_set _ _ hi, hsl]
    have e1 : ((cellsX o).set (i * 2) (.string nm)).set (i * 2 + 1) (o[i]).sl = (cellsX o).set (i * 2) (.string nm) := by
      apply List.ext_getElem?
      intro q
      rw [List.getElem?_set]
      split
      · rename_i hq
        subst hq
        rw [if_pos (by rw [List.length_set, cellsX_len]; omega), List.getElem?_set_ne (by omega)]
        exact ((cellsX_get o i hi).2).symm
      · rfl
    rw [e1]
    exact hst
  · obtain ⟨q, hq, rfl⟩ := List.mem_iff_getElem.1 hx
    rw [List.length_set] at hq
    rw [List.getElem_set]
    by_cases e : i = q
    · rw [if_pos e]; exact own_else (show W.ownsRow A 9 1 (o[i]).sl (o[i]).txt.length ((o[i]).txt.map Value.string) from h.own.1.2 _ (List.getElem_mem hi)) hrow (by decide) hg
    · rw [if_neg e]; exact own_else (h.own.1.2 _ (List.getElem_mem hq)) hrow (by decide) hg
  · refine apart_set h.own.2 hi fun q hq hne => ?_
    rw [hsl]
    exact apart_ne h.own.2 hq hi hne
  · obtain ⟨q, hq, rfl⟩ := List.mem_iff_getElem.1 hx
    rw [List.length_set] at hq
    rw [List.getElem_set]
    by_cases e : i = q
    · rw [if_pos e, hsl]; exact h.zo _ (List.getElem_mem hi)
    · rw [if_neg e]; exact h.zo _ (List.getElem_mem hq)

/-- A block more, that nobody owns. -/
theorem XSt.alloc {A B C : Nat} {we W : World} {u : Value} {o : List Fx} (h : XSt A B C we u o W) (ob : Obj) : XSt A B C we u o (W.alloc ob) :=
  ⟨h.own.on ((Below.refl _ _).alloc (Nat.le_refl _) _), h.zu, h.zo, h.kept.grown (grown_alloc W ob) fun k hk => by cases hk⟩

/-- The texts have grown by one, and are stored back. -/
theorem XSt.grow {A B C : Nat} {we W W4 : World} {g c n : Nat} {o : List Fx} (h : XSt A B C we (.slice (some ⟨g, 0, none⟩) n c) o W) (hn : o.length = n) {i : Nat} (hi : i < o.length) {p : Option Addr} {m cap : Nat} {ts : List ByteArray}
    (hm : ts.length = m) (hown : W4.ownsRow A 9 1 (.slice p m cap) m (ts.map Value.string)) (hg : W.grownBy W4 (o[i]).sl.ownBlock) (hat : (Value.slice p m cap).ownBlock = (o[i]).sl.ownBlock ∨ (Value.slice p m cap).ownBlock = some W.heap.size) :
    W4.cell? ⟨g, i * 2 + 1, none⟩ = some (o[i]).sl ∧ W4.frozen? ⟨g, i * 2 + 1, none⟩ = false ∧
      XSt A B C we (.slice (some ⟨g, 0, none⟩) n c) (o.set i ⟨(o[i]).name, p, cap, ts⟩) (W4.setCell ⟨g, i * 2 + 1, none⟩ (.slice p m cap)) := by
  subst hn
  subst hm
  have hrow := h.own.1.1
  have hti := h.own.1.2 _ (List.getElem_mem hi)
  have hrow4 : W4.ownsRow A 30 2 (.slice (some ⟨g, 0, none⟩) o.length c) o.length (cellsX o) := own_else hrow hti (by decide) hg
  have hset : W4.grownBy (W4.setCell ⟨g, i * 2 + 1, none⟩ (.slice p ts.length cap)) (Value.slice (some ⟨g, 0, none⟩) o.length c).ownBlock := grown_set W4 g _ _
  have hk4 : KeptZ A B C we W4 := h.kept.grown hg fun k hk => ⟨sl_lt hti k hk, h.zo _ (List.getElem_mem hi) k hk⟩
  have hzn : ZoneV B C (.slice p ts.length cap) := fun k hk => by
    rcases hat with e | e
    · exact h.zo _ (List.getElem_mem hi) k (by rw [← e]; exact hk)
    · have := h.kept.size
      rw [e] at hk
      have : W.heap.size = k := by simpa using hk
      omega
  refine ⟨by rw [hrow4.cellAt _ (by omega)]; exact (cellsX_get o i hi).2, hrow4.frozenAt _, ⟨⟨⟨?_, fun x hx => ?_⟩, ?_⟩, h.zu, fun x hx => ?_, hk4.grown hset fun k hk => ⟨(World.ownsRow.lt hrow k hk).1, h.zu k hk⟩⟩⟩
  · have hst := (hrow4.stored (i * 2 + 1) (.slice p ts.length cap)).1
    rw [List.length_set, cellsX_set _ _ hi]
    have e1 : (cellsX o).set (i * 2) (.string (o[i]).name) = cellsX o := by
      apply List.ext_getElem?
      intro q
      rw [List.getElem?_set]
      split
      · rename_i hq
        subst hq
        rw [if_pos (by rw [cellsX_len]; omega)]
        exact ((cellsX_get o i hi).1).symm
      · rfl
    rw [e1]
    exact hst
  · obtain ⟨q, hq, rfl⟩ := List.mem_iff_getElem.1 hx
    rw [List.length_set] at hq
    rw [List.getElem_set]
    by_cases e : i = q
    · rw [if_pos e]; exact own_else (show W4.ownsRow A 9 1 (.slice p ts.length cap) ts.length (ts.map Value.string) from hown) hrow4 (by decide) hset
    · rw [if_neg e]
      have hy4 : W4.ownsRow A 9 1 (o[q]).sl (o[q]).txt.length ((o[q]).txt.map Value.string) := World.ownsRow.kept (h.own.1.2 _ (List.getElem_mem hq)) hg (apart_ne h.own.2 hq hi (by omega))
      exact own_else hy4 hrow4 (by decide) hset
  · refine apart_set h.own.2 hi fun q hq hne => ?_
    show (o[q]).sl.ownBlock = none ∨ (o[q]).sl.ownBlock ≠ (Value.slice p ts.length cap).ownBlock
    rcases hat with e | e
    · rw [e]; exact apart_ne h.own.2 hq hi hne
    · rcases hb : (o[q]).sl.ownBlock with _ | k
      · exact Or.inl rfl
      · right
        have := (World.ownsRow.lt (h.own.1.2 _ (List.getElem_mem hq)) k hb).2
        rw [e]
        intro e2
        simp at e2; omega
  · obtain ⟨q, hq, rfl⟩ := List.mem_iff_getElem.1 hx
    rw [List.length_set] at hq
    rw [List.getElem_set]
    by_cases e : i = q
    · rw [if_pos e]; exact hzn
    · rw [if_neg e]; exact h.zo _ (List.getElem_mem hq)

/-- What Norm answers, its rows apart. -/
def NJPost (w : World) (fs : List Fld) (e : Ending) (w' : World) : Prop :=
  (∃ u o, e = .returned (.tuple #[u, .int .i64 (codeF fs)]) ∧ OwnJ w.heap.size w' u o ∧ o.map Fx.fld = ansF fs) ∧ Below w.heap.size w w'

theorem own_noneJ (N : Nat) (w : World) : OwnJ N w (.slice none 0 0) [] := ⟨own_none _ _, List.Pairwise.nil⟩

theorem norm_apart (v : Value) (d : List Fx) (w : World) (hv : IsXs w v d) (hf : FitX d) (hl : d.length * 40 ≤ 140737488355328) (htot : totF (d.map Fx.fld) * 16 ≤ 140737488355328) :
    Calls Tryd.prog 7 #[v] w fun e w' => NJPost w (d.map Fx.fld) e w' := by
  refine (norm_any v d w hv hf hl htot).mono fun e w' h => ⟨?_, h.2⟩
  rcases h.ans.plain with ⟨h1, rfl⟩ | ⟨h1, ⟨h2, rfl⟩ | ⟨h2, h3, rfl⟩ | ⟨h2, h3, u, o, rfl, ho, hm⟩⟩
  · have hc : codeF (d.map Fx.fld) = 2 := by unfold codeF; rw [h1]; rfl
    exact ⟨_, [], by rw [hc], own_noneJ _ _, by unfold ansF; rw [hc]; rfl⟩
  · have hc : codeF (d.map Fx.fld) = 3 := by unfold codeF; rw [h1, h2]; rfl
    exact ⟨_, [], by rw [hc], own_noneJ _ _, by unfold ansF; rw [hc]; rfl⟩
  · have hc : codeF (d.map Fx.fld) = 5 := by unfold codeF; rw [h1, h2, h3]; rfl
    exact ⟨_, [], by rw [hc], own_noneJ _ _, by unfold ansF; rw [hc]; rfl⟩
  · have hc : codeF (d.map Fx.fld) = 0 := by unfold codeF; rw [h1, h2, h3]; rfl
    exact ⟨u, o, by rw [hc], ho, by unfold ansF; rw [hc]; exact hm⟩

theorem ans_small {fs : List Fld} : ∀ f ∈ ansF fs, f.2.length ≤ 8 := by
  unfold ansF
  split
  · rename_i h
    exact fun f hf => (fits_parts (may_fits (codeF_zero h).2.2 f hf)).2.2.1
  · intro f hf; simp at hf

end Go.Proofs.YtmjchokacmbkoabDoor
