/-
  The contracts of Encode and Size.
-/
import Derived.Test.YtmjchokacmbkoabDoorMay
import Derived.Test.YtmjchokacmbkoabDoorEnc0
namespace Go.Proofs.YtmjchokacmbkoabDoor
open Go.RowKit

def encT (t : ByteArray) : List UInt8 := UInt8.ofNat t.size :: t.data.toList
def encF (f : Fld) : List UInt8 := encT f.1 ++ [UInt8.ofNat f.2.length] ++ f.2.flatMap encT
def encL (fs : List Fld) : List UInt8 := UInt8.ofNat fs.length :: fs.flatMap encF

theorem encT_len (t : ByteArray) : (encT t).length = t.size + 1 := by simp [encT]

theorem flat_len {α : Type} (f : α → List UInt8) (c : Nat) (l : List α) (h : ∀ x ∈ l, (f x).length ≤ c) : (l.flatMap f).length ≤ l.length * c := by
  induction l with
  | nil => simp
  | cons x l ih =>
    rw [List.flatMap_cons, List.length_append, List.length_cons, Nat.add_mul]
    have h1 := h x (by simp)
    have h2 := ih fun y hy => h y (by simp [hy])
    omega

theorem fieldB_len {l : List UInt8} (h : fieldB l = true) : l.length ≤ 32 := by
  unfold fieldB spell at h
  cases l with
  | nil => simp
  | cons c r => simp at h; simp; omega

theorem fits_parts {f : Fld} (h : fitsB f = true) : f.1.size ≤ 32 ∧ 0 < f.2.length ∧ f.2.length ≤ 8 ∧ (∀ t ∈ f.2, t.size ≤ 128) ∧ fieldB f.1.data.toList = true := by
  unfold fitsB at h
  simp only [Bool.and_eq_true, Bool.not_eq_true', decide_eq_true_eq] at h
  obtain ⟨⟨⟨h1, h2⟩, h3⟩, h4⟩ := h
  refine ⟨by simpa using fieldB_len h1, ?_, h3, fun t ht => ?_, h1⟩
  · cases hf : f.2 with
    | nil => rw [hf] at h2; simp at h2
    | cons _ _ => simp
  · rw [List.any_eq_false] at h4
    have := h4 t ht
    unfold longB at this
    simpa using this

theorem fits_texts {f : Fld} (h : fitsB f = true) (j : Nat) : ((f.2.take j).flatMap encT).length ≤ 1032 := by
  obtain ⟨_, _, h3, h4, _⟩ := fits_parts h
  have := flat_len encT 129 (f.2.take j) (fun t ht => by rw [encT_len]; have := h4 t (List.mem_of_mem_take ht); omega)
  rw [List.length_take] at this
  have h5 : min j f.2.length * 129 ≤ 8 * 129 := Nat.mul_le_mul_right _ (by omega)
  omega

theorem encF_len {f : Fld} (h : fitsB f = true) : (encF f).length ≤ 1066 := by
  have h1 := (fits_parts h).1
  have h2 := fits_texts h f.2.length
  rw [List.take_length] at h2
  unfold encF
  rw [List.length_append, List.length_append, encT_len]
  simp only [List.length_cons, List.length_nil]
  omega

theorem may_parts {fs : List Fld} (h : mayB fs = true) : fs.length ≤ 16 ∧ ∀ i, i < fs.length → stepOk fs i = true := by
  unfold mayB at h
  rw [Bool.and_eq_true, decide_eq_true_eq, List.all_eq_true] at h
  exact ⟨h.1, fun i hi => h.2 i (List.mem_range.2 hi)⟩

theorem may_fits {fs : List Fld} (h : mayB fs = true) : ∀ f ∈ fs, fitsB f = true := by
  intro f hf
  obtain ⟨i, hi, rfl⟩ := List.mem_iff_getElem.1 hf
  have := (may_parts h).2 i hi
  unfold stepOk at this
  rw [Bool.and_eq_true, List.getD_eq_getElem?_getD, List.getElem?_eq_getElem hi] at this
  exact this.1

theorem enc_ahead {fs : List Fld} (h : mayB fs = true) (i : Nat) : ((fs.take i).flatMap encF).length ≤ 17056 := by
  have := flat_len encF 1066 (fs.take i) (fun f hf => encF_len (may_fits h f (List.mem_of_mem_take hf)))
  rw [List.length_take] at this
  have h5 : min i fs.length * 1066 ≤ 16 * 1066 := Nat.mul_le_mul_right _ (by have := (may_parts h).1; omega)
  omega

/-- A field's box is no row of bytes. -/
theorem box_kept {w w' : World} {F : Nat} {cs : Array Value} {fr : Nat × Nat} (hk : KeptB w w') (h : w.heap[F]? = some (.cells cs 30 fr)) : w'.heap[F]? = some (.cells cs 30 fr) :=
  hk F _ h (by rintro ⟨cs', fr', e⟩; injection e with _ e; exact absurd e (by decide))

theorem box_cells {w w' : World} {u v : Value} (hk : KeptB (w.alloc (.cells #[u, v] 30)) w') :
    w'.cell? ⟨w.heap.size, 0, none⟩ = some u ∧ w'.cell? ⟨w.heap.size, 1, none⟩ = some v := by
  have hbx := box_kept hk (heap_alloc_new w _)
  exact ⟨by rw [Lib.cell_of_heap hbx]; rfl, by rw [Lib.cell_of_heap hbx]; rfl⟩

def encV (w' : World) (n0 : Nat) (fs : List Fld) (e : Ending) : Prop :=
  if mayB fs = true then ∃ v, e = .returned (.tuple #[v, .int .i64 0]) ∧ OwnB n0 w' v (encL fs) else e = .returned (.tuple #[.slice none 0 0, .int .i64 3])

set_option maxHeartbeats 4000000 in
set_option maxRecDepth 100000 in
theorem encode_no (v : Value) (d : List Fx) (w : World) (hv : IsXs w v d) (hf : FitX d) (hm : mayB (d.map Fx.fld) = false) :
    Calls Tryd.prog 18 #[v] w fun e w' => e = .returned (.tuple #[.slice none 0 0, .int .i64 3]) ∧ Grown w w' := by
  have HM := hid (may_any v d w hv hf)
  rw [hm] at HM
  clear hv
  go_enter Tryd.func18, Tryd.ntmps18
  go_wp2_with (first | (go_at_call 16; refine HM.out.mono ?_; rintro e w1 ⟨rfl, hg⟩))
  go_ret2
  exact ⟨rfl, hg⟩

set_option maxHeartbeats 4000000 in
set_option maxRecDepth 100000 in
theorem encode_yes (v : Value) (d : List Fx) (w : World) (hv : IsXs w v d) (hf : FitX d) (hm : mayB (d.map Fx.fld) = true) :
    Calls Tryd.prog 18 #[v] w fun e w' => (∃ u, e = .returned (.tuple #[u, .int .i64 0]) ∧ OwnB w.heap.size w' u (encL (d.map Fx.fld))) ∧ Below w.heap.size w w' := by
  have HM := hid (may_any v d w hv hf)
  rw [hm] at HM
  obtain ⟨i0, hi, hz0, hz1, hz2⟩ := info_parts Tryd.infoByte
  obtain ⟨p, cap, rfl, hd, ht⟩ := hv
  have HT := hid ht
  have HF := hid hf.2
  have hl := hf.1
  unfold maxLen at hl
  have HD := hid hd
  have HI := hid hi
  clear hi
  have HMM := hid hm
  clear ht hf hd hm
  go_enter Tryd.func18, Tryd.ntmps18
  go_wp2_with (first | (go_at_call 16; refine HM.out.mono ?_; rintro e w1 ⟨rfl, hg⟩))
  go_loopg [4, 18] d.length (fun g vb vi wr => ∃ i : Nat, vi = .int .i64 i ∧ i ≤ d.length ∧ d.length - i ≤ g ∧ Below w.heap.size w wr ∧ OwnB w.heap.size wr vb (UInt8.ofNat d.length :: ((d.map Fx.fld).take i).flatMap encF))
  case atStart =>
    refine ⟨0, rfl, by omega, by omega, (hg.below).alloc hg.below.size _, ?_⟩
    have := World.ownsRow_lit (base := w.heap.size) (e := 5) (size := 1) w1 #[.int .u8 ((d.length : Int) % 256)] 1 hg.below.size (by decide) rfl
    unfold OwnB
    simpa [Lib.byteCells] using this
  case round =>
    obtain ⟨i, rfl, hi, hgk, hb, hob⟩ := hrel
    by_cases hlt : i < d.length
    · have hltz : (i : Int) < (d.length : Int) := by omega
      have hiz : (0 : Int) ≤ i := by omega
      obtain ⟨b, off, rfl, hxs⟩ : ∃ b off, p = some ⟨b, off, none⟩ ∧ XsAt w b off d := by
        rcases HD.out with h | h
        · subst h; simp at hlt
        · exact h
      obtain ⟨c0, c1⟩ := hxs.kept hb i hlt
      have hxi : (d[i]).at w := HT.out _ (List.getElem_mem hlt)
      have hfi : fitsB (d[i]).fld = true := may_fits HMM.out _ (List.mem_map.2 ⟨_, List.getElem_mem hlt, rfl⟩)
      have htk : ((d.map Fx.fld).take (i + 1)).flatMap encF = ((d.map Fx.fld).take i).flatMap encF ++ encF (d[i]).fld := by
        rw [List.take_succ_eq_append_getElem (by rw [List.length_map]; exact hlt), List.flatMap_append]
        simp
      obtain ⟨x, hx⟩ : ∃ x, d[i] = x := ⟨_, rfl⟩
      rw [hx] at c0 c1 hxi hfi htk
      obtain ⟨b2, off2, hp2, ht2⟩ : ∃ b off, x.p = some ⟨b, off, none⟩ ∧ ∀ i, (h : i < x.txt.length) → w.cell? ⟨b, off + i, none⟩ = some (.string x.txt[i]) := by
        rcases hxi with h | h
        · have := (fits_parts hfi).2.1
          simp only [Fx.fld] at this
          rw [h] at this; simp at this
        · exact h
      have HT2 := hid ht2
      have HFI := hid hfi
      have HTK := hid htk
      have hal := enc_ahead HMM.out i
      obtain ⟨acc, hacc⟩ : ∃ acc, UInt8.ofNat d.length :: ((d.map Fx.fld).take i).flatMap encF = acc := ⟨_, rfl⟩
      have hacl : acc.length ≤ 17057 := by rw [← hacc, List.length_cons]; omega
      rw [hacc] at hob
      obtain ⟨hn32, _, hn8, _⟩ := fits_parts hfi
      have hob1 : OwnB w.heap.size (wr.alloc (.cells #[.string x.name, .slice (some ⟨b2, off2, none⟩) x.txt.length x.cap] 30)) u4 acc := hob.on ((Below.refl _ _).alloc (Nat.le_refl _) _)
      have HOB := hid hob1
      have HACC := hid hacc
      have HB := hid hb
      have hsz := hb.size
      clear hxs hxi hx htk hal hacc hob hob1 hfi ht2
      unfold Fx.sl at c1
      rw [hp2] at c1
      clear hp2
      simp only [Fx.fld] at hn32 hn8
      go_wp2_with (first | (go_at_call 34; refine (withText_any w.heap.size _ acc _ _ HOB.out (by simp; omega) (by omega)).mono ?_; rintro e w2 ⟨v2, rfl, hob2, hb2, hk2⟩; obtain ⟨d0, d1⟩ := box_cells hk2) | (at_builtin; refine wpList_append_own _ rfl _ _ 39 rfl w.heap.size 5 i0 (.int .u8 0) 1 1 Tryd.underlying39 HI.out hz0 hz1 hz2 rfl (by decide) _ _ _ rfl (World.ownsRow.alloc hob2 _) ⟨w2.heap.size, 0, none⟩ 1 1 [.int .u8 (x.txt.length : Int)] rfl rfl ?c1 ?c2 ?c3 ?c4 ?c5 ?_))
      case c1 =>
        intro j u hj
        match j, hj with
        | 0, hj => simp at hj; subst hj; simp [Addr.add]
      case c2 => intro u hu; simp at hu; subst hu; rfl
      case c3 => unfold maxLen; simp; omega
      case c4 => simp; omega
      case c5 => have := hb2.size; simp at this ⊢; omega
      intro v3 w3 hown3 hg3 _
      have hbw : Below w.heap.size w w2 := (HB.out.alloc hsz _).trans hb2
      have hbw3 : Below w.heap.size w w3 := (hbw.alloc hbw.size _).grown hg3 (by have := hbw.size; simp; omega) (fun k hk => (World.ownsRow.lt hob2 k hk).1)
      have hk3 : KeptB (wr.alloc (.cells #[.string x.name, .slice (some ⟨b2, off2, none⟩) x.txt.length x.cap] 30)) w3 := (hk2.trans (KeptB.alloc w2 _)).trans (KeptB.grown (World.ownsRow.alloc hob2 _) hg3)
      obtain ⟨f0, f1⟩ := box_cells hk3
      have hob3 : OwnB w.heap.size w3 v3 (acc ++ encT x.name ++ [UInt8.ofNat x.txt.length]) := by
        unfold OwnB
        have e1 : (acc ++ encT x.name ++ [UInt8.ofNat x.txt.length]).length = acc.length + (x.name.size + 1) + 1 := by simp [encT]; omega
        have e2 : Lib.byteCells (acc ++ encT x.name ++ [UInt8.ofNat x.txt.length]) = Lib.byteCells (acc ++ UInt8.ofNat x.name.size :: x.name.data.toList) ++ [.int .u8 (x.txt.length : Int)] := by
          simp [Lib.byteCells, encT]
          omega
        rw [e1, e2]
        exact hown3
      have HOB3 := hid hob3
      have HBW3 := hid hbw3
      clear hown3 hg3 hob2 hk2 hk3 hbw hob3 hbw3 d0 d1 hb2
      obtain ⟨ac2, hac2⟩ : ∃ ac2, acc ++ encT x.name ++ [UInt8.ofNat x.txt.length] = ac2 := ⟨_, rfl⟩
      have hac2l : ac2.length ≤ 17100 := by rw [← hac2]; simp [encT_len]; omega
      have HAC2 := hid hac2
      rw [hac2] at HOB3
      clear hac2
      go_wp2_with fail
      go_loopg [4, 36] x.txt.length (fun g vb vj wr2 => ∃ j : Nat, vj = .int .i64 j ∧ j ≤ x.txt.length ∧ x.txt.length - j ≤ g ∧ Below w.heap.size w wr2 ∧ OwnB w.heap.size wr2 vb (ac2 ++ (x.txt.take j).flatMap encT))
      case atStart => exact ⟨0, rfl, by omega, by omega, HBW3.out, by simpa using HOB3.out⟩
      case round =>
        obtain ⟨j, rfl, hj, hgj, hbj, hobj⟩ := hrel
        by_cases hlj : j < x.txt.length
        · have hljz : (j : Int) < (x.txt.length : Int) := by omega
          have hjz : (0 : Int) ≤ j := by omega
          have t0 : wr.cell? ⟨b2, off2 + j, none⟩ = some (.string x.txt[j]) := (hbj.cell (p := ⟨b2, off2 + j, none⟩) (cell_block (HT2.out j hlj))).trans (HT2.out j hlj)
          have hts : x.txt[j].size ≤ 128 := (fits_parts HFI.out).2.2.2.1 _ (List.getElem_mem hlj)
          have htl := fits_texts HFI.out j
          simp only [Fx.fld] at htl
          have hstep : (x.txt.take (j + 1)).flatMap encT = (x.txt.take j).flatMap encT ++ encT x.txt[j] := by
            rw [List.take_succ_eq_append_getElem hlj, List.flatMap_append]; simp
          obtain ⟨t, hte⟩ : ∃ t, x.txt[j] = t := ⟨_, rfl⟩
          rw [hte] at t0 hts hstep
          have HST := hid hstep
          have HOJ := hid hobj
          have HBJ := hid hbj
          have hszj := hbj.size
          clear hte hstep hobj hbj
          go_wp2_with (first | (go_at_call 34; refine (withText_any w.heap.size _ _ _ _ HOJ.out hszj (by rw [List.length_append]; omega)).mono ?_; rintro e w4 ⟨v4, rfl, hob4, hb4, hk4⟩))
          go_roundg (x.txt.length - (j + 1))
          case measure => omega
          refine ⟨j + 1, by go_num, by omega, by omega, HBJ.out.trans hb4, ?_⟩
          rw [HST.out, ← List.append_assoc]
          exact hob4
        · have hljz : ¬ (j : Int) < (x.txt.length : Int) := by omega
          have htk2 : x.txt.take j = x.txt := List.take_of_length_le (by omega)
          rw [htk2] at hobj
          have HOJ := hid hobj
          have HBJ := hid hbj
          clear hobj hbj htk2
          go_wp2_with fail
          go_roundg (d.length - (i + 1))
          case measure => omega
          refine ⟨i + 1, by go_num, by omega, by omega, HBJ.out, ?_⟩
          rw [HTK.out]
          have e3 : UInt8.ofNat d.length :: (((d.map Fx.fld).take i).flatMap encF ++ encF x.fld) = ac2 ++ x.txt.flatMap encT := by
            rw [← HAC2.out, ← HACC.out]
            simp [encF, Fx.fld]
          rw [e3]
          exact HOJ.out
    · have hltz : ¬ (i : Int) < (d.length : Int) := by omega
      have htk2 : (d.map Fx.fld).take i = d.map Fx.fld := List.take_of_length_le (by rw [List.length_map]; omega)
      rw [htk2] at hob
      have HOJ := hid hob
      clear hob htk2
      go_wp2_with fail
      go_ret2
      refine ⟨⟨_, rfl, ?_⟩, hb⟩
      unfold encL
      rw [List.length_map]
      exact HOJ.out

end Go.Proofs.YtmjchokacmbkoabDoor
