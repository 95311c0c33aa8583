/-
  Texts of this claim, one behind the other: Pri Siz Fix0 Fix.
-/
import Derived.Test.YtmjchokacmbkoabDoorPb
import Derived.Test.YtmjchokacmbkoabDoorPa
/-
  The contract of Print.
-/
namespace Go.Proofs.YtmjchokacmbkoabDoor
open Go.RowKit

def wordOf (n t : ByteArray) : ByteArray := n ++ ⟨#[61]⟩ ++ ⟨(writeL t.data.toList).toArray⟩
def wordsF (f : Fld) : List ByteArray := f.2.map (wordOf f.1)
def wordsL (fs : List Fld) : List ByteArray := fs.flatMap wordsF
def lineOf (fs : List Fld) : ByteArray := ⟨(Lib.join ((wordsL fs).map (·.data.toList)) [32]).toArray⟩

theorem wordsL_len {fs : List Fld} (h : ∀ f ∈ fs, fitsB f = true) (hl : fs.length ≤ 16) : (wordsL fs).length ≤ 128 := by
  have : ∀ l : List Fld, (∀ f ∈ l, fitsB f = true) → (wordsL l).length ≤ l.length * 8 := by
    intro l
    induction l with
    | nil => intro _; simp [wordsL]
    | cons f l ih =>
      intro hf
      have h1 := ih fun g hg => hf g (by simp [hg])
      have h2 := (fits_parts (hf f (by simp))).2.2.1
      have e : wordsL (f :: l) = wordsF f ++ wordsL l := rfl
      rw [e, List.length_append, List.length_cons, Nat.add_mul]
      have e2 : (wordsF f).length = f.2.length := by simp [wordsF]
      omega
  have := this fs h
  omega

theorem word_len {f : Fld} {t : ByteArray} (h : fitsB f = true) (ht : t ∈ f.2) : (wordOf f.1 t).size ≤ 417 := by
  obtain ⟨h1, _, _, h4, _⟩ := fits_parts h
  have h5 := h4 t ht
  have h6 := writeL_len t.data.toList
  have e : t.data.toList.length = t.size := by simp
  have e2 : (wordOf f.1 t).size = f.1.size + 1 + (writeL t.data.toList).length := by
    unfold wordOf
    rw [ByteArray.size_append, ByteArray.size_append]
    rfl
  omega

theorem words_len {fs : List Fld} (h : ∀ f ∈ fs, fitsB f = true) : ∀ x ∈ wordsL fs, x.size ≤ 417 := by
  intro x hx
  obtain ⟨f, hf, hx⟩ := List.mem_flatMap.1 hx
  obtain ⟨t, ht, rfl⟩ := List.mem_map.1 hx
  exact word_len (h f hf) ht

theorem join_two (l m : List UInt8) (ls : List (List UInt8)) : Lib.join (l :: m :: ls) [32] = l ++ 32 :: Lib.join (m :: ls) [32] := by simp [Lib.join, List.intercalate]

theorem join_len (ls : List (List UInt8)) (c : Nat) (h : ∀ l ∈ ls, l.length ≤ c) : (Lib.join ls [32]).length ≤ ls.length * (c + 1) := by
  induction ls with
  | nil => simp [Lib.join]
  | cons l ls ih =>
    have h1 := h l (by simp)
    have h2 := ih fun m hm => h m (by simp [hm])
    cases ls with
    | nil => simp [Lib.join]; omega
    | cons m ls =>
      rw [join_two, List.length_append, List.length_cons, List.length_cons, Nat.add_mul]
      omega

theorem join_any (ws : List ByteArray) (p : Option Addr) (cap : Nat) (w : World) {n0 : Nat} (h : OwnT n0 w (.slice p ws.length cap) ws) (hn : ws.length ≤ 128) (hs : ∀ x ∈ ws, x.size ≤ 417) :
    Calls Tryd.prog 32 #[.slice p ws.length cap, .string ⟨#[32]⟩] w fun e w' => e = .returned (.string ⟨(Lib.join (ws.map (·.data.toList)) [32]).toArray⟩) ∧ Below w.heap.size w w' := by
  rcases h.2 with ⟨_, h0⟩ | ⟨g, c, cur, hv, _, hg, hcap, _, hsz, htk⟩
  · obtain rfl := List.length_eq_zero_iff.1 h0
    refine (Tryd.strings_Join_none p cap _ w).mono ?_
    rintro e w' ⟨rfl, rfl⟩
    exact ⟨rfl, Below.refl _ _⟩
  · injection hv with hp hl hc
    subst hp
    subst hc
    refine (Tryd.strings_Join g 0 cap ws ⟨#[32]⟩ w (fun j x hj => ?_) (Array.getElem?_eq_some_iff.1 hg).1 (by omega) (by omega) ?_).mono ?_
    · have hjl := (List.getElem?_eq_some_iff.1 hj).1
      rw [Nat.zero_add, cell_of_row w g j cur _ _ hg, ← Array.getElem?_toList]
      have : (ws.map Value.string)[j]? = cur.toList[j]? := by rw [← htk, List.getElem?_take, if_pos (by omega)]
      rw [← this, List.getElem?_map, hj]; rfl
    · have h1 := join_len (ws.map (·.data.toList)) 417 (fun l hl => by
        obtain ⟨x, hx, rfl⟩ := List.mem_map.1 hl
        have := hs x hx
        simpa using this)
      rw [List.length_map] at h1
      have h2 : ws.length * 418 ≤ 128 * 418 := Nat.mul_le_mul_right _ hn
      show (Lib.join (ws.map (·.data.toList)) [32]).length ≤ _
      omega
    · rintro e w' ⟨rfl, hb⟩
      exact ⟨rfl, hb⟩

set_option maxHeartbeats 4000000 in
set_option maxRecDepth 100000 in
theorem print_no (v : Value) (d : List Fx) (w : World) (hv : IsXs w v d) (hf : FitX d) (hm : mayB (d.map Fx.fld) = false) :
    Calls Tryd.prog 15 #[v] w fun e w' => e = .returned (.tuple #[.string ⟨#[]⟩, .int .i64 3]) ∧ Grown w w' := by
  have HM := hid (may_any v d w hv hf)
  rw [hm] at HM
  clear hv
  go_enter Tryd.func15, Tryd.ntmps15
  go_wp2_with (first | (go_at_call 16; refine HM.out.mono ?_; rintro e w1 ⟨rfl, hg⟩))
  go_ret2
  exact ⟨rfl, hg⟩

set_option maxHeartbeats 4000000 in
set_option maxRecDepth 100000 in
theorem print_yes (v : Value) (d : List Fx) (w : World) (hp : PlainAt w) (hv : IsXs w v d) (hf : FitX d) (hm : mayB (d.map Fx.fld) = true) :
    Calls Tryd.prog 15 #[v] w fun e w' => e = .returned (.tuple #[.string (lineOf (d.map Fx.fld)), .int .i64 0]) ∧ Below w.heap.size w w' := by
  have HM := hid (may_any v d w hv hf)
  rw [hm] at HM
  have HP := hid hp
  obtain ⟨i0, hi, hz0, hz1, hz2⟩ := info_parts Tryd.infoStr
  have HI := hid hi
  obtain ⟨p, cap, rfl, hd, ht⟩ := hv
  have HT := hid ht
  have hl := hf.1
  unfold maxLen at hl
  have HD := hid hd
  have HMM := hid hm
  clear ht hf hd hm hi hp
  go_enter Tryd.func15, Tryd.ntmps15
  go_wp2_with (first | (go_at_call 16; refine HM.out.mono ?_; rintro e w1 ⟨rfl, hg⟩))
  go_loopg [4, 14] d.length (fun g vb vi wr => ∃ i : Nat, vi = .int .i64 i ∧ i ≤ d.length ∧ d.length - i ≤ g ∧ Below w.heap.size w wr ∧ OwnT w.heap.size wr vb (wordsL ((d.map Fx.fld).take i)))
  case atStart => exact ⟨0, rfl, by omega, by omega, hg.below, World.ownsRow_nil _ _ _ _⟩
  case round =>
    obtain ⟨i, rfl, hi, hgk, hb, hob⟩ := hrel
    by_cases hlt : i < d.length
    · have hltz : (i : Int) < (d.length : Int) := by omega
      have hiz : (0 : Int) ≤ i := by omega
      obtain ⟨b, off, rfl, hxs⟩ : ∃ b off, p = some ⟨b, off, none⟩ ∧ XsAt w b off d := by
        rcases HD.out with h | h
        · subst h; simp at hlt
        · exact h
      obtain ⟨c0, c1⟩ := hxs.kept hb i hlt
      have hxi : (d[i]).at w := HT.out _ (List.getElem_mem hlt)
      have hfi : fitsB (d[i]).fld = true := may_fits HMM.out _ (List.mem_map.2 ⟨_, List.getElem_mem hlt, rfl⟩)
      have htk : wordsL ((d.map Fx.fld).take (i + 1)) = wordsL ((d.map Fx.fld).take i) ++ wordsF (d[i]).fld := by
        unfold wordsL
        rw [List.take_succ_eq_append_getElem (by rw [List.length_map]; exact hlt), List.flatMap_append]
        simp
      obtain ⟨x, hx⟩ : ∃ x, d[i] = x := ⟨_, rfl⟩
      rw [hx] at c0 c1 hxi hfi htk
      obtain ⟨b2, off2, hp2, ht2⟩ : ∃ b off, x.p = some ⟨b, off, none⟩ ∧ ∀ i, (h : i < x.txt.length) → w.cell? ⟨b, off + i, none⟩ = some (.string x.txt[i]) := by
        rcases hxi with h | h
        · have := (fits_parts hfi).2.1
          simp only [Fx.fld] at this
          rw [h] at this; simp at this
        · exact h
      have hal : (wordsL ((d.map Fx.fld).take i)).length ≤ 128 := wordsL_len (fun f hf => may_fits HMM.out f (List.mem_of_mem_take hf)) (by rw [List.length_take]; have := (may_parts HMM.out).1; omega)
      obtain ⟨acc, hacc⟩ : ∃ acc, wordsL ((d.map Fx.fld).take i) = acc := ⟨_, rfl⟩
      rw [hacc] at hob htk hal
      obtain ⟨hn32, _, hn8, _⟩ := fits_parts hfi
      have HT2 := hid ht2
      have HFI := hid hfi
      have HTK := hid htk
      have HOB := hid hob
      have HB := hid hb
      have hsz := hb.size
      clear hxs hxi hx htk hacc hob hfi ht2
      unfold Fx.sl at c1
      rw [hp2] at c1
      clear hp2
      simp only [Fx.fld] at hn32 hn8
      go_wp2_with fail
      obtain ⟨F, hF⟩ : ∃ F, wr.heap.size = F := ⟨_, rfl⟩
      have hbox : (wr.alloc (.cells #[.string x.name, .slice (some ⟨b2, off2, none⟩) x.txt.length x.cap] 30)).heap[F]? = some (.cells #[.string x.name, .slice (some ⟨b2, off2, none⟩) x.txt.length x.cap] 30 (0, 0)) := by rw [← hF]; exact heap_alloc_new wr _
      have hbb : Below w.heap.size w (wr.alloc (.cells #[.string x.name, .slice (some ⟨b2, off2, none⟩) x.txt.length x.cap] 30)) := HB.out.alloc hsz _
      have hoo : OwnT w.heap.size (wr.alloc (.cells #[.string x.name, .slice (some ⟨b2, off2, none⟩) x.txt.length x.cap] 30)) u4 acc := HOB.out.on ((Below.refl _ _).alloc (Nat.le_refl _) _)
      have hwF : w.heap.size ≤ F := by omega
      rw [hF]
      go_loopg [4, 21] x.txt.length (fun g vb vj wr2 => ∃ j : Nat, vj = .int .i64 j ∧ j ≤ x.txt.length ∧ x.txt.length - j ≤ g ∧ Below w.heap.size w wr2 ∧ wr2.heap[F]? = some (.cells #[.string x.name, .slice (some ⟨b2, off2, none⟩) x.txt.length x.cap] 30 (0, 0)) ∧ OwnT w.heap.size wr2 vb (acc ++ (x.txt.take j).map (wordOf x.name)))
      case atStart => exact ⟨0, rfl, by omega, by omega, hbb, hbox, by simpa using hoo⟩
      case round =>
        obtain ⟨j, rfl, hj, hgj, hbj, hbxj, hobj⟩ := hrel
        by_cases hlj : j < x.txt.length
        · have hljz : (j : Int) < (x.txt.length : Int) := by omega
          have hjz : (0 : Int) ≤ j := by omega
          have t0 : wr.cell? ⟨b2, off2 + j, none⟩ = some (.string x.txt[j]) := (hbj.cell (p := ⟨b2, off2 + j, none⟩) (cell_block (HT2.out j hlj))).trans (HT2.out j hlj)
          have hts : x.txt[j].size ≤ 128 := (fits_parts HFI.out).2.2.2.1 _ (List.getElem_mem hlj)
          have hstep : (x.txt.take (j + 1)).map (wordOf x.name) = (x.txt.take j).map (wordOf x.name) ++ [wordOf x.name x.txt[j]] := by
            rw [List.take_succ_eq_append_getElem hlj, List.map_append]; simp
          obtain ⟨t, hte⟩ : ∃ t, x.txt[j] = t := ⟨_, rfl⟩
          rw [hte] at t0 hts hstep
          have q0 : wr.cell? ⟨F, 0, none⟩ = some (.string x.name) := by rw [Lib.cell_of_heap hbxj]; rfl
          have hFl : F < wr.heap.size := (Array.getElem?_eq_some_iff.1 hbxj).1
          obtain ⟨ac2, hac2⟩ : ∃ ac2, acc ++ (x.txt.take j).map (wordOf x.name) = ac2 := ⟨_, rfl⟩
          have hal2 : ac2.length ≤ 200 := by rw [← hac2]; simp; omega
          rw [hac2] at hobj
          have HW := hid (write_any t wr.drew (HP.out.on hbj.drew) (by omega))
          have HST := hid hstep
          have HOJ := hid hobj
          have HBJ := hid hbj
          have HBX := hid hbxj
          have HAC2 := hid hac2
          have hszj := hbj.size
          clear hte hstep hobj hbj hbxj hac2
          have hwl2 := writeL_len t.data.toList
          have hwl3 : t.data.toList.length = t.size := by simp
          obtain ⟨wt, hwt⟩ : ∃ wt : ByteArray, ⟨(writeL t.data.toList).toArray⟩ = wt := ⟨_, rfl⟩
          have hwts : wt.size ≤ 384 := by rw [← hwt]; show (writeL t.data.toList).toArray.size ≤ 384; rw [List.size_toArray]; omega
          rw [hwt] at HW
          obtain ⟨nq, hnq⟩ : ∃ nq : ByteArray, x.name ++ ⟨#[61]⟩ = nq := ⟨_, rfl⟩
          have hnqs : nq.size ≤ 33 := by rw [← hnq, ByteArray.size_append]; show x.name.size + 1 ≤ 33; omega
          obtain ⟨wd, hwd⟩ : ∃ wd : ByteArray, nq ++ wt = wd := ⟨_, rfl⟩
          have HWD : Hid (wordOf x.name t = wd) := by show _ = _; rw [← hwd, ← hnq, ← hwt]; rfl
          have hA : ∀ w, Sem.run Tryd.prog (Op.stringOp .add x.name ⟨#[61]⟩) w = .ok (.string nq) w := fun w => by rw [← hnq]; exact run_string_add_sum _ _ _ (by show x.name.size + 1 ≤ _; omega)
          have hB : ∀ w, Sem.run Tryd.prog (Op.stringOp .add nq wt) w = .ok (.string wd) w := fun w => by rw [← hwd]; exact run_string_add_sum _ _ _ (by omega)
          clear hwl2 hwl3 hwt hnq hwd hwts hnqs
          have KS : Hid (∀ w' : World, w'.heap[F]? = wr.heap[F]? → w'.cell? ⟨F, 0, none⟩ = some (.string x.name)) := fun w' e => by
            rw [Lib.cell_of_heap (e.trans HBX.out)]; rfl
          have KA : Hid (∀ w3 w4 : World, w3.heap[F]? = wr.heap[F]? → OwnT w.heap.size w3 u4 ac2 → w3.grownBy w4 u4.ownBlock → w4.heap[F]? = wr.heap[F]?) := fun w3 w4 e ho hg => by
            refine (hg.block F (Array.getElem?_eq_some_iff.1 (e.trans HBX.out)).1 fun e' => ?_).trans e
            rcases ho.2 with ⟨hv, _⟩ | ⟨g, c, cur, hv, _, hgb, _⟩
            · rw [hv] at e'; cases e'
            · rw [hv] at e'
              have : F = g := by simpa [Value.ownBlock] using e'
              subst this
              rw [e, HBX.out] at hgb
              injection hgb with hgb
              injection hgb with _ hgb
              exact absurd hgb (by decide)
          go_wp2_with fail
          go_region_held3 (fun w' => w'.cell? ⟨F, 0, none⟩ = some (.string x.name))
            (first | exact q0 | exact q2 | exact q3 | exact q4)
            (first | (go_at_call 22; refine HW.out.mono ?_; rintro o w2 ⟨rfl, hb2⟩; have e2 := hb2.block F hFl; have q2 := KS.out _ e2; have e3 := fun o => (Below.heap_alloc w2 o F (Nat.lt_of_lt_of_le hFl hb2.size)).trans e2; have e3w := e3 (.cells #[.string wd] 9); have q3 := KS.out _ e3w; have hbase3 : w.heap.size ≤ (w2.alloc (.cells #[.string wd] 9)).heap.size := (by have := hb2.size; simp at this ⊢; omega); have hown3 : OwnT w.heap.size (w2.alloc (.cells #[.string wd] 9)) u4 ac2 := (OwnT.on (w := wr.drew) HOJ.out hb2).on ((Below.refl _ _).alloc (Nat.le_refl _) _)) | (refine step_append_lies _ (by rfl) (.tmp 25) (.tmp 32) 28 (by rfl) w.heap.size 9 i0 (.string ⟨#[]⟩) 1 16 Tryd.underlying28 HI.out hz0 hz1 hz2 rfl (by decide) u4 ac2.length (ac2.map Value.string) (by rfl) (by assumption) _ 1 1 [.string wd] (by rfl) rfl (by intro j u hj; match j, hj with | 0, hj => simp at hj; subst hj; simp [Addr.add]) (by intro u hu; simp at hu; subst hu; rfl) (by decide) (by unfold maxLen; omega) (by omega) (by assumption) _ rfl ?_; intro g cap w4 hown4 hg4 hat4 hlt4; have e4 := KA.out _ _ (by assumption) (by assumption) hg4; have q4 := KS.out _ e4))
          have hbw : Below w.heap.size w w4 := (((HBJ.out.drew.trans (hb2.mono (by simpa using hszj))).alloc (by have := hb2.size; simp at this ⊢; omega) _).grown hg4 hbase3 (fun k hk => (World.ownsRow.lt hown3 k hk).1))
          have HF4 : Hid (Below w.heap.size w w4 ∧ w4.heap[F]? = some (.cells #[.string x.name, .slice (some ⟨b2, off2, none⟩) x.txt.length x.cap] 30 (0, 0)) ∧ OwnT w.heap.size w4 (.slice (some ⟨g, 0, none⟩) (ac2.length + 1) cap) (acc ++ (x.txt.take (j + 1)).map (wordOf x.name))) := by
            refine ⟨hbw, e4.trans HBX.out, ?_⟩
            have e5 : acc ++ (x.txt.take (j + 1)).map (wordOf x.name) = ac2 ++ [wd] := by rw [HST.out, ← List.append_assoc, HAC2.out, HWD.out]
            rw [e5]
            unfold OwnT
            rw [List.length_append, List.map_append]
            exact hown4
          clear hbw hown4 hg4 hown3 e4 e3w e3 e2 hb2 q4 q3 q2 hat4 hlt4
          go_wp2_with fail
          go_roundg (x.txt.length - (j + 1))
          case measure => omega
          exact ⟨j + 1, by go_num, by omega, by omega, HF4.out⟩
        · have hljz : ¬ (j : Int) < (x.txt.length : Int) := by omega
          have htk2 : x.txt.take j = x.txt := List.take_of_length_le (by omega)
          rw [htk2] at hobj
          have HOJ := hid hobj
          have HBJ := hid hbj
          clear hobj hbj htk2 hbxj
          go_wp2_with fail
          go_roundg (d.length - (i + 1))
          case measure => omega
          refine ⟨i + 1, by go_num, by omega, by omega, HBJ.out, ?_⟩
          rw [HTK.out]
          exact HOJ.out
    · have hltz : ¬ (i : Int) < (d.length : Int) := by omega
      have htk2 : (d.map Fx.fld).take i = d.map Fx.fld := List.take_of_length_le (by rw [List.length_map]; omega)
      rw [htk2] at hob
      have hwn : (wordsL (d.map Fx.fld)).length ≤ 128 := wordsL_len (may_fits HMM.out) (may_parts HMM.out).1
      have hws := words_len (may_fits HMM.out)
      have HLN : Hid (lineOf (d.map Fx.fld) = ⟨(Lib.join ((wordsL (d.map Fx.fld)).map (·.data.toList)) [32]).toArray⟩) := rfl
      obtain ⟨ws, hwe⟩ : ∃ ws, wordsL (d.map Fx.fld) = ws := ⟨_, rfl⟩
      rw [hwe] at hob hwn hws HLN
      clear htk2 hwe
      obtain ⟨p4, cap4, rfl⟩ : ∃ p cap, u4 = .slice p ws.length cap := by
        rcases hob.2 with ⟨hv, h0⟩ | ⟨g, cap, cur, hv, _⟩
        · exact ⟨none, 0, by rw [hv, h0]⟩
        · exact ⟨_, _, hv⟩
      have HJ := hid (join_any ws p4 cap4 wr hob hwn hws)
      clear hob hws hwn
      go_wp2_with (first | (go_at_call 32; refine HJ.out.mono ?_; rintro e w2 ⟨rfl, hb2⟩))
      go_ret2
      rw [HLN.out]
      exact ⟨rfl, hb.trans (hb2.mono hb.size)⟩

end Go.Proofs.YtmjchokacmbkoabDoor

/-
  The contract of Size.
-/
namespace Go.Proofs.YtmjchokacmbkoabDoor
open Go.RowKit

def sizeN (fs : List Fld) : Nat := if mayB fs = true then (encL fs).length else 0

set_option maxHeartbeats 1000000 in
theorem size_any (v : Value) (d : List Fx) (w : World) (hv : IsXs w v d) (hf : FitX d) :
    Calls Tryd.prog 17 #[v] w fun e w' => e = .returned (.int .i64 (sizeN (d.map Fx.fld))) ∧ Below w.heap.size w w' := by
  cases hm : mayB (d.map Fx.fld) with
  | false =>
    have H0 : Hid (sizeN (d.map Fx.fld) = 0) := by show _ = _; unfold sizeN; rw [hm]; rfl
    have HE := hid (encode_no v d w hv hf hm)
    clear hv hm
    go_enter Tryd.func17, Tryd.ntmps17
    go_wp2_with (first | (go_at_call 18; refine HE.out.mono ?_; rintro e w1 ⟨rfl, hg⟩))
    go_ret
    rw [H0.out]
    exact ⟨rfl, hg.below⟩
  | true =>
    have H0 : Hid (sizeN (d.map Fx.fld) = (encL (d.map Fx.fld)).length) := by show _ = _; unfold sizeN; rw [hm]; rfl
    have HE := hid (encode_yes v d w hv hf hm)
    clear hv hm
    generalize sizeN (d.map Fx.fld) = r at H0
    go_enter Tryd.func17, Tryd.ntmps17
    go_wp2_with (first | (go_at_call 18; refine HE.out.mono ?_; rintro e w1 ⟨⟨u, rfl, ho⟩, hg⟩; obtain ⟨g, cap, rfl, _, _⟩ := World.ownsRow.form ho (by simp [encL])))
    go_ret
    rw [H0.out]
    exact ⟨rfl, hg⟩

end Go.Proofs.YtmjchokacmbkoabDoor

/-
  The chapter's examples: the plain answers.
-/
namespace Go.Proofs.YtmjchokacmbkoabDoor
open Go.RowKit Go.Sort Go.Lib

def fixA : List Fld := [(⟨#[98]⟩, [⟨#[120]⟩]), (⟨#[97]⟩, [⟨#[121]⟩]), (⟨#[98]⟩, [⟨#[122]⟩])]
def fixN : List Fld := [(⟨#[97]⟩, [⟨#[121]⟩]), (⟨#[98]⟩, [⟨#[120]⟩, ⟨#[122]⟩])]
def fixE : List Fld := [(⟨#[97]⟩, [⟨#[120]⟩, ⟨#[]⟩])]
def fixP : List Fld := [(⟨#[98]⟩, [⟨#[49]⟩]), (⟨#[97]⟩, [⟨#[50]⟩])]
def fixQ : List Fld := [(⟨#[97]⟩, [⟨#[50]⟩]), (⟨#[98]⟩, [⟨#[49]⟩])]

theorem ltN_eq (a b : ByteArray) : ltN a b = ltB a b := by
  unfold ltN ltB
  rw [Lib.toList_data, Lib.toList_data, cb_less]

theorem mayB_eq (fs : List Fld) : mayB fs = (decide (fs.length ≤ 16) && (List.range fs.length).all fun i => fitsB (fs.getD i default) && (decide (i = 0) || ltB (fs.getD (i - 1) default).1 (fs.getD i default).1)) := by
  unfold mayB stepOk
  simp only [ltN_eq]

theorem fixA_mis : fixA.any misB = false := by decide
theorem fixA_norm : normF fixA = fixN := by decide
theorem fixN_bare : fixN.any bareB = false := by decide
theorem fixN_may : mayB fixN = true := by rw [mayB_eq]; decide
theorem fixN_line : lineOf fixN = ⟨#[97, 61, 121, 32, 98, 61, 120, 32, 98, 61, 122]⟩ := by decide
theorem fixE_may : mayB fixE = true := by decide
theorem fixE_enc : encL fixE = [1, 1, 97, 2, 1, 120, 0] := by decide
theorem fixE_dec : decodeO [1, 1, 97, 2, 1, 120, 0] = some fixE := by decide
theorem fixE_size : sizeN fixE = 7 := by decide
theorem fixP_mis : fixP.any misB = false := by decide
theorem fixP_norm : normF fixP = fixQ := by decide
theorem fixQ_bare : fixQ.any bareB = false := by decide
theorem fixQ_may : mayB fixQ = true := by rw [mayB_eq]; decide
theorem fix_write : writeL [97, 32, 98] = [97, 37, 50, 48, 98] := by decide
theorem fix_texts : textsOf fixN ⟨#[98]⟩ = [⟨#[120]⟩, ⟨#[122]⟩] := by decide
theorem fix_read : readL [97, 37, 50, 48, 98] = some [97, 32, 98] := by
  rw [readL_some (c := 97) (n := 1) (by decide)]
  show (readL [37, 50, 48, 98]).map _ = _
  rw [readL_some (c := 32) (n := 3) (by decide)]
  show ((readL [98]).map _).map _ = _
  rw [readL_some (c := 98) (n := 1) (by decide)]
  show (((readL []).map _).map _).map _ = _
  rw [readL_nil]
  rfl
theorem fix_split : splitL [98, 61, 49, 32, 97, 61, 50] = [[98, 61, 49], [97, 61, 50]] := by
  rw [splitL_yes (i := 3) (by decide)]
  show [98, 61, 49] :: splitL [97, 61, 50] = _
  rw [splitL_no (by decide)]
theorem fix_one (c : UInt8) (h : firstP [c] = some (c, 1)) : readL [c] = some [c] := by
  rw [readL_some h]
  show (readL []).map _ = _
  rw [readL_nil]
  rfl
theorem fix_words : fieldsW (splitL [98, 61, 49, 32, 97, 61, 50]) = some fixP := by
  rw [fix_split]
  have h1 : wordO [98, 61, 49] = some ([98], [49]) := by
    unfold wordO
    rw [if_neg (by decide), show (Lib.indexByte [98, 61, 49] 61).toNat = 1 by decide]
    show (readL [49]).map _ = _
    rw [fix_one 49 (by decide)]; rfl
  have h2 : wordO [97, 61, 50] = some ([97], [50]) := by
    unfold wordO
    rw [if_neg (by decide), show (Lib.indexByte [97, 61, 50] 61).toNat = 1 by decide]
    show (readL [50]).map _ = _
    rw [fix_one 50 (by decide)]; rfl
  simp only [fieldsW, h1, h2]
  rfl

end Go.Proofs.YtmjchokacmbkoabDoor

/-
  fixed answers true.
-/
namespace Go.Proofs.YtmjchokacmbkoabDoor
open Go.RowKit Go.Sort Go.Lib

theorem fitF_small (fs : List Fld) (h : fs.all (fun f => decide (f.1.size ≤ 100) && decide (f.2.length ≤ 100) && f.2.all fun t => decide (t.size ≤ 100)) = true) : ∀ f ∈ fs, FitF f := by
  intro f hf
  rw [List.all_eq_true] at h
  have := h f hf
  simp only [Bool.and_eq_true, decide_eq_true_eq, List.all_eq_true] at this
  exact ⟨Nat.le_trans this.1.1 (by decide), Nat.le_trans this.1.2 (by decide), fun t ht => Nat.le_trans (this.2 t ht) (by decide)⟩

theorem fitFx {d : List Fx} {fs : List Fld} (h : d.map Fx.fld = fs) (hl : fs.length ≤ 100) (hf : ∀ f ∈ fs, FitF f) : FitX d := by
  subst h
  rw [List.length_map] at hl
  exact ⟨Nat.le_trans hl (by decide), fun x hx => hf _ (List.mem_map.2 ⟨x, hx, rfl⟩)⟩

theorem fixA_fit : ∀ f ∈ fixA, FitF f := fitF_small _ (by decide)
theorem fixN_fit : ∀ f ∈ fixN, FitF f := fitF_small _ (by decide)
theorem fixE_fit : ∀ f ∈ fixE, FitF f := fitF_small _ (by decide)
theorem fixQ_fit : ∀ f ∈ fixQ, FitF f := fitF_small _ (by decide)

/-- What an answer of Norm or Parse is known by. -/
def OwnAns (w : World) (fs : List Fld) (n : Nat) (e : Ending) (w' : World) : Prop :=
  ∃ p c d, e = .returned (.tuple #[.slice p n c, .int .i64 0]) ∧ OwnXs w.heap.size w' (.slice p n c) d ∧ d.map Fx.fld = fs ∧ Below w.heap.size w w'

theorem own_len {n0 : Nat} {w : World} {u : Value} {d : List Fx} (h : OwnXs n0 w u d) : ∃ p c, u = .slice p d.length c := by
  rcases h.1.2 with ⟨rfl, h0⟩ | ⟨g, cap, cur, rfl, _⟩
  · exact ⟨none, 0, by rw [h0]⟩
  · exact ⟨_, _, rfl⟩

theorem ownAns_of {w w' : World} {u : Value} {d : List Fx} {fs : List Fld} {n : Nat} (hn : fs.length = n) (ho : OwnXs w.heap.size w' u d) (hm : d.map Fx.fld = fs) (hb : Below w.heap.size w w') : OwnAns w fs n (.returned (.tuple #[u, .int .i64 0])) w' := by
  obtain ⟨p, c, rfl⟩ := own_len ho
  have e : d.length = n := by rw [← hn, ← hm, List.length_map]
  rw [e] at ho ⊢
  exact ⟨p, c, d, rfl, ho, hm, hb⟩

theorem fix_norm (v : Value) (d : List Fx) (w : World) (hv : IsXs w v d) (hm : d.map Fx.fld = fixA) : Calls Tryd.prog 7 #[v] w fun e w' => OwnAns w fixN 2 e w' := by
  have hl : d.length = 3 := by have := congrArg List.length hm; simpa [fixA] using this
  refine (norm_any v d w hv (fitFx hm (by decide) fixA_fit) (by omega) (by rw [hm]; decide)).mono ?_
  intro e w' h
  have hp := h.ans.plain
  rw [hm, fixA_norm] at hp
  rcases hp with ⟨h1, _⟩ | ⟨_, ⟨h1, _⟩ | ⟨_, h1, _⟩ | ⟨_, _, u, o, rfl, ho, hom⟩⟩
  · rw [fixA_mis] at h1; cases h1
  · rw [fixN_bare] at h1; cases h1
  · rw [fixN_may] at h1; cases h1
  · exact ownAns_of rfl ho.1 hom h.2

theorem fix_print (v : Value) (d : List Fx) (w : World) (hp : PlainAt w) (hv : IsXs w v d) (hm : d.map Fx.fld = fixN) :
    Calls Tryd.prog 15 #[v] w fun e w' => e = .returned (.tuple #[.string ⟨#[97, 61, 121, 32, 98, 61, 120, 32, 98, 61, 122]⟩, .int .i64 0]) ∧ Below w.heap.size w w' := by
  have := print_yes v d w hp hv (fitFx hm (by decide) fixN_fit) (by rw [hm]; exact fixN_may)
  rw [hm, fixN_line] at this
  exact this

theorem fix_encode (v : Value) (d : List Fx) (w : World) (hv : IsXs w v d) (hm : d.map Fx.fld = fixE) :
    Calls Tryd.prog 18 #[v] w fun e w' => ∃ g c, e = .returned (.tuple #[.slice (some ⟨g, 0, none⟩) 7 c, .int .i64 0]) ∧ OwnB w.heap.size w' (.slice (some ⟨g, 0, none⟩) 7 c) [1, 1, 97, 2, 1, 120, 0] ∧ Below w.heap.size w w' := by
  have h := encode_yes v d w hv (fitFx hm (by decide) fixE_fit) (by rw [hm]; exact fixE_may)
  rw [hm, fixE_enc] at h
  refine h.mono ?_
  rintro e w' ⟨⟨u, rfl, hb⟩, hq⟩
  rcases hb.2 with ⟨_, h0⟩ | ⟨g, cap, cur, rfl, _⟩
  · simp at h0
  · exact ⟨g, cap, rfl, hb, hq⟩

theorem own_rest {n0 : Nat} {w : World} {g c : Nat} {l : List UInt8} (h : OwnB n0 w (.slice (some ⟨g, 0, none⟩) l.length c) l) : RestAt w.heap.size w (.slice (some ⟨g, 0, none⟩) l.length c) l := by
  rcases h.2 with ⟨hv, _⟩ | ⟨g', cap, cur, hv, _, hg, hc, hcm, hsz, htk⟩
  · cases hv
  · cases hv
    refine ⟨_, _, rfl, by omega, by omega, Or.inr ⟨g, 0, rfl, (Array.getElem?_eq_some_iff.1 hg).1, fun i hi => ?_⟩⟩
    rw [Nat.zero_add, cell_of_row w g i cur _ _ hg]
    have : (Lib.byteCells l)[i]? = cur.toList[i]? := by
      rw [← htk, List.getElem?_take, if_pos (by omega)]
    rw [← Array.getElem?_toList, ← this]
    simp [Lib.byteCells, hi]

theorem fix_decode (g c : Nat) (n0 : Nat) (w : World) (hb : OwnB n0 w (.slice (some ⟨g, 0, none⟩) 7 c) [1, 1, 97, 2, 1, 120, 0]) : Calls Tryd.prog 19 #[.slice (some ⟨g, 0, none⟩) 7 c] w fun e w' => OwnAns w fixE 1 e w' := by
  refine (decode_any _ [1, 1, 97, 2, 1, 120, 0] w (own_rest hb)).mono ?_
  rintro e w' ⟨h | ⟨fs, hd, u, d, rfl, ho, hm⟩, hq⟩
  · rw [fixE_dec] at h; cases h.1
  · rw [fixE_dec] at hd; cases hd
    exact ownAns_of rfl ho hm hq

theorem fix_parse (w : World) (hp : PlainAt w) : Calls Tryd.prog 20 #[.string ⟨#[98, 61, 49, 32, 97, 61, 50]⟩] w fun e w' => OwnAns w fixQ 2 e w' := by
  have hl : (⟨#[98, 61, 49, 32, 97, 61, 50]⟩ : ByteArray).data.toList = [98, 61, 49, 32, 97, 61, 50] := rfl
  refine (parse_any _ w hp (by decide)).mono ?_
  rintro e w' ⟨h, hq⟩
  rw [hl, fix_words] at h
  rcases h with ⟨h, _⟩ | ⟨_, h, _⟩ | ⟨_, fs, d, h, hm, ha⟩
  · cases h
  · cases h
  · cases h
    have hp := ha.plain
    rw [hm, fixP_norm] at hp
    rcases hp with ⟨h1, _⟩ | ⟨_, ⟨h1, _⟩ | ⟨_, h1, _⟩ | ⟨_, _, u, o, rfl, ho, hom⟩⟩
    · rw [fixP_mis] at h1; cases h1
    · rw [fixQ_bare] at h1; cases h1
    · rw [fixQ_may] at h1; cases h1
    · exact ownAns_of rfl ho.1 hom hq

theorem fix_readc (w : World) (hp : PlainAt w) : Calls Tryd.prog 21 #[.string ⟨#[97, 37, 50, 48, 98]⟩] w fun e w' => e = .returned (.tuple #[.string ⟨#[97, 32, 98]⟩, .int .i64 0]) ∧ Below w.heap.size w w' := by
  have := read_any ⟨#[97, 37, 50, 48, 98]⟩ w hp (by decide)
  rw [show (⟨#[97, 37, 50, 48, 98]⟩ : ByteArray).data.toList = [97, 37, 50, 48, 98] from rfl, fix_read] at this
  exact this

theorem fix_writec (w : World) (hp : PlainAt w) : Calls Tryd.prog 22 #[.string ⟨#[97, 32, 98]⟩] w fun e w' => e = .returned (.string ⟨#[97, 37, 50, 48, 98]⟩) ∧ Below w.heap.size w w' := by
  have := write_any ⟨#[97, 32, 98]⟩ w hp (by decide)
  rw [show (⟨#[97, 32, 98]⟩ : ByteArray).data.toList = [97, 32, 98] from rfl, fix_write] at this
  exact this

theorem fix_may (v : Value) (d : List Fx) (w : World) (hv : IsXs w v d) (hm : d.map Fx.fld = fixN) : Calls Tryd.prog 16 #[v] w fun e w' => e = .returned (.bool true) ∧ Below w.heap.size w w' := by
  have := may_any v d w hv (fitFx hm (by decide) fixN_fit)
  rw [hm, fixN_may] at this
  exact this.mono fun _ _ ⟨h1, h2⟩ => ⟨h1, h2.below⟩

theorem fix_size (v : Value) (d : List Fx) (w : World) (hv : IsXs w v d) (hm : d.map Fx.fld = fixE) : Calls Tryd.prog 17 #[v] w fun e w' => e = .returned (.int .i64 7) ∧ Below w.heap.size w w' := by
  have := size_any v d w hv (fitFx hm (by decide) fixE_fit)
  rw [hm, fixE_size] at this
  exact this

theorem fix_equal (v : Value) (d : List Fx) (w : World) (hv : IsXs w v d) (hm : d.map Fx.fld = fixQ) : Calls Tryd.prog 8 #[v, v] w fun e w' => e = .returned (.bool true) ∧ Below w.heap.size w w' := by
  have := equal_any v v d d w hv hv (fitFx hm (by decide) fixQ_fit) (fitFx hm (by decide) fixQ_fit)
  rw [show decide (d.map Fx.fld = d.map Fx.fld) = true from decide_eq_true rfl] at this
  exact this.mono fun _ _ ⟨h1, h2⟩ => ⟨h1, h2.below⟩

theorem fix_textsc (v : Value) (d : List Fx) (w : World) (hv : IsXs w v d) (hm : d.map Fx.fld = fixN) : Calls Tryd.prog 10 #[v, .string ⟨#[98]⟩] w fun e w' => (∃ p c, e = .returned (.slice p 2 c)) ∧ Below w.heap.size w w' := by
  have hft := fitFx hm (by decide) fixN_fit
  have := texts_any v ⟨#[98]⟩ d w hv hft (fun x hx => by
    have hx' : x.fld ∈ fixN := by rw [← hm]; exact List.mem_map.2 ⟨x, hx, rfl⟩
    have h2 : ∀ f ∈ fixN, f.2.length ≤ 2 := by decide
    have h3 : x.txt.length ≤ 2 := h2 _ hx'
    omega)
  rw [hm, fix_texts] at this
  refine this.mono ?_
  rintro e w' ⟨⟨u, rfl, ho⟩, hq⟩
  obtain ⟨p, c, rfl⟩ := own_slice ho
  exact ⟨⟨p, c, rfl⟩, hq⟩

theorem lit_row {w : World} {b : Nat} {cs : Array Value} {T : TypeId} {d : List Fx} {n cap : Nat} (h : w.heap[b]? = some (.cells cs T (0, 0))) (hcs : cs.toList = cellsX d) (hn : n = d.length) (ht : ∀ x ∈ d, x.at w) : IsXs w (.slice (some ⟨b, 0, none⟩) n cap) d := by
  subst hn
  refine ⟨_, _, rfl, Or.inr ⟨b, 0, rfl, fun i hi => ?_⟩, ht⟩
  obtain ⟨c0, c1⟩ := cellsX_get d i hi
  rw [Nat.zero_add, cell_of_row w b _ cs _ _ h, cell_of_row w b _ cs _ _ h, ← Array.getElem?_toList, ← Array.getElem?_toList, hcs]
  exact ⟨c0, c1⟩

theorem lit_txt {w : World} {b : Nat} {cs : Array Value} {T : TypeId} {ts : List ByteArray} (h : w.heap[b]? = some (.cells cs T (0, 0))) (hcs : cs.toList = ts.map Value.string) : TxtAt w (some ⟨b, 0, none⟩) ts := by
  refine Or.inr ⟨b, 0, rfl, fun i hi => ?_⟩
  rw [Nat.zero_add, cell_of_row w b i cs _ _ h, ← Array.getElem?_toList, hcs]
  simp [hi]

theorem fix_norm0 (w : World) : Calls Tryd.prog 7 #[.slice (some ⟨w.heap.size + 1 + 1 + 1, 0, none⟩) 3 3]
    ((((w.alloc (.cells #[.string ⟨#[120]⟩] 9)).alloc (.cells #[.string ⟨#[121]⟩] 9)).alloc (.cells #[.string ⟨#[122]⟩] 9)).alloc
      (.cells #[.string ⟨#[98]⟩, .slice (some ⟨w.heap.size, 0, none⟩) 1 1, .string ⟨#[97]⟩, .slice (some ⟨w.heap.size + 1, 0, none⟩) 1 1, .string ⟨#[98]⟩, .slice (some ⟨w.heap.size + 1 + 1, 0, none⟩) 1 1] 30))
    fun e w' => ∃ p c d n0, e = .returned (.tuple #[.slice p 2 c, .int .i64 0]) ∧ OwnXs n0 w' (.slice p 2 c) d ∧ d.map Fx.fld = fixN ∧ Below w.heap.size w w' := by
  obtain ⟨w1, h1⟩ : ∃ w1, w.alloc (.cells #[.string ⟨#[120]⟩] 9) = w1 := ⟨_, rfl⟩
  obtain ⟨w2, h2⟩ : ∃ w2, w1.alloc (.cells #[.string ⟨#[121]⟩] 9) = w2 := ⟨_, rfl⟩
  obtain ⟨w3, h3⟩ : ∃ w3, w2.alloc (.cells #[.string ⟨#[122]⟩] 9) = w3 := ⟨_, rfl⟩
  have s1 : w1.heap.size = w.heap.size + 1 := by rw [← h1]; simp
  have s2 : w2.heap.size = w.heap.size + 1 + 1 := by rw [← h2]; simp; omega
  have s3 : w3.heap.size = w.heap.size + 1 + 1 + 1 := by rw [← h3]; simp; omega
  rw [h1, h2, h3]
  obtain ⟨w4, h4⟩ : ∃ w4, w3.alloc (.cells #[.string ⟨#[98]⟩, .slice (some ⟨w.heap.size, 0, none⟩) 1 1, .string ⟨#[97]⟩, .slice (some ⟨w.heap.size + 1, 0, none⟩) 1 1, .string ⟨#[98]⟩, .slice (some ⟨w.heap.size + 1 + 1, 0, none⟩) 1 1] 30) = w4 := ⟨_, rfl⟩
  have k4 : w4.heap[w.heap.size + 1 + 1 + 1]? = some (.cells #[.string ⟨#[98]⟩, .slice (some ⟨w.heap.size, 0, none⟩) 1 1, .string ⟨#[97]⟩, .slice (some ⟨w.heap.size + 1, 0, none⟩) 1 1, .string ⟨#[98]⟩, .slice (some ⟨w.heap.size + 1 + 1, 0, none⟩) 1 1] 30 (0, 0)) := by
    rw [← h4, ← s3]; exact heap_alloc_new w3 _
  have k3 : w4.heap[w.heap.size + 1 + 1]? = some (.cells #[.string ⟨#[122]⟩] 9 (0, 0)) := by
    rw [← h4, Below.heap_alloc _ _ _ (by omega), ← h3, ← s2]; exact heap_alloc_new w2 _
  have k2 : w4.heap[w.heap.size + 1]? = some (.cells #[.string ⟨#[121]⟩] 9 (0, 0)) := by
    rw [← h4, Below.heap_alloc _ _ _ (by omega), ← h3, Below.heap_alloc _ _ _ (by omega), ← h2, ← s1]; exact heap_alloc_new w1 _
  have k1 : w4.heap[w.heap.size]? = some (.cells #[.string ⟨#[120]⟩] 9 (0, 0)) := by
    rw [← h4, Below.heap_alloc _ _ _ (by omega), ← h3, Below.heap_alloc _ _ _ (by omega), ← h2, Below.heap_alloc _ _ _ (by omega), ← h1]; exact heap_alloc_new w _
  have hb : Below w.heap.size w w4 := by
    rw [← h4, ← h3, ← h2, ← h1]
    exact ((((Below.refl _ w).alloc (Nat.le_refl _) _).alloc (by simp) _).alloc (by simp; omega) _).alloc (by simp; omega) _
  rw [h4]
  refine (fix_norm _ [⟨⟨#[98]⟩, some ⟨w.heap.size, 0, none⟩, 1, [⟨#[120]⟩]⟩, ⟨⟨#[97]⟩, some ⟨w.heap.size + 1, 0, none⟩, 1, [⟨#[121]⟩]⟩, ⟨⟨#[98]⟩, some ⟨w.heap.size + 1 + 1, 0, none⟩, 1, [⟨#[122]⟩]⟩] w4 (lit_row k4 rfl rfl ?_) rfl).mono ?_
  · intro x hx
    simp only [List.mem_cons, List.not_mem_nil, or_false] at hx
    rcases hx with rfl | rfl | rfl
    · exact lit_txt k1 rfl
    · exact lit_txt k2 rfl
    · exact lit_txt k3 rfl
  · rintro e w' ⟨p, c, d, he, ho, hm, hq⟩
    exact ⟨p, c, d, _, he, ho, hm, hb.trans (hq.mono hb.size)⟩

theorem fix_encode0 (w : World) : Calls Tryd.prog 18 #[.slice (some ⟨w.heap.size + 1, 0, none⟩) 1 1]
    ((w.alloc (.cells #[.string ⟨#[120]⟩, .string ⟨#[]⟩] 9)).alloc (.cells #[.string ⟨#[97]⟩, .slice (some ⟨w.heap.size, 0, none⟩) 2 2] 30))
    fun e w' => ∃ g c n0, e = .returned (.tuple #[.slice (some ⟨g, 0, none⟩) 7 c, .int .i64 0]) ∧ OwnB n0 w' (.slice (some ⟨g, 0, none⟩) 7 c) [1, 1, 97, 2, 1, 120, 0] ∧ Below w.heap.size w w' := by
  obtain ⟨w1, h1⟩ : ∃ w1, w.alloc (.cells #[.string ⟨#[120]⟩, .string ⟨#[]⟩] 9) = w1 := ⟨_, rfl⟩
  have s1 : w1.heap.size = w.heap.size + 1 := by rw [← h1]; simp
  rw [h1]
  obtain ⟨w4, h4⟩ : ∃ w4, w1.alloc (.cells #[.string ⟨#[97]⟩, .slice (some ⟨w.heap.size, 0, none⟩) 2 2] 30) = w4 := ⟨_, rfl⟩
  have k4 : w4.heap[w.heap.size + 1]? = some (.cells #[.string ⟨#[97]⟩, .slice (some ⟨w.heap.size, 0, none⟩) 2 2] 30 (0, 0)) := by
    rw [← h4, ← s1]; exact heap_alloc_new w1 _
  have k1 : w4.heap[w.heap.size]? = some (.cells #[.string ⟨#[120]⟩, .string ⟨#[]⟩] 9 (0, 0)) := by
    rw [← h4, Below.heap_alloc _ _ _ (by omega), ← h1]; exact heap_alloc_new w _
  have hb : Below w.heap.size w w4 := by
    rw [← h4, ← h1]
    exact ((Below.refl _ w).alloc (Nat.le_refl _) _).alloc (by simp) _
  rw [h4]
  refine (fix_encode _ [⟨⟨#[97]⟩, some ⟨w.heap.size, 0, none⟩, 2, [⟨#[120]⟩, ⟨#[]⟩]⟩] w4 (lit_row k4 rfl rfl ?_) rfl).mono ?_
  · intro x hx
    simp only [List.mem_cons, List.not_mem_nil, or_false] at hx
    rcases hx with rfl
    exact lit_txt k1 rfl
  · rintro e w' ⟨g, c, he, ho, hq⟩
    exact ⟨g, c, _, he, ho, hb.trans (hq.mono hb.size)⟩

theorem bel_then {B : Nat} {a b c : World} (h : Below B a b) (hB : B ≤ b.heap.size) (k : Below b.heap.size b c) : Below B a c := h.trans (k.mono hB)

set_option maxHeartbeats 4000000 in
set_option maxRecDepth 100000 in
theorem fixed_any (w : World) (hp : PlainAt w) : Calls Tryd.prog 6 #[] w fun e w' => e = .returned (.bool true) ∧ Below w.heap.size w w' := by
  have HP := hid hp
  clear hp
  go_enter Tryd.func6, Tryd.ntmps6
  go_wp2_with fail
  refine (fix_norm0 w).mono ?_
  rintro e w1 ⟨pN, cN, dN, nN, rfl, hoN, hmN, b1⟩
  have HON := hid hoN
  have HMN := hid hmN
  have HB1 := hid b1
  clear hoN hmN b1
  go_wp2_with fail
  refine (fix_print _ dN w1 (HP.out.on HB1.out) HON.out.is HMN.out).mono ?_
  rintro e w2 ⟨rfl, q2⟩
  have HQ2 := hid q2
  clear q2
  go_wp2_with fail
  refine (fix_encode0 w2).mono ?_
  rintro e w3 ⟨gE, cE, nE, rfl, hoE, q3⟩
  have HOE := hid hoE
  have HQ3 := hid q3
  clear hoE q3
  go_wp2_with fail
  refine (fix_decode gE cE nE w3 HOE.out).mono ?_
  rintro e w4 ⟨pD, cD, dD, rfl, hoD, hmD, q4⟩
  have HOD := hid hoD
  have HMD := hid hmD
  have HQ4 := hid q4
  clear hoD hmD q4
  have B4 : Hid (Below w.heap.size w w4) := by
    have h1 := HB1.out; have h2 := HQ2.out; have h3 := HQ3.out; have h4 := HQ4.out
    have g2 := bel_then h1 h1.size h2; have g3 := bel_then g2 g2.size h3; exact bel_then g3 g3.size h4
  have N4 : Hid (Below w1.heap.size w1 w4) := by
    have h2 := HQ2.out; have h3 := HQ3.out; have h4 := HQ4.out
    have g3 := bel_then h2 h2.size h3; exact bel_then g3 g3.size h4
  go_wp2_with fail
  refine (fix_parse w4 (HP.out.on B4.out)).mono ?_
  rintro e w5 ⟨pQ, cQ, dQ, rfl, hoQ, hmQ, q5⟩
  have HOQ := hid hoQ
  have HMQ := hid hmQ
  have HQ5 := hid q5
  clear hoQ hmQ q5
  have B5 : Hid (Below w.heap.size w w5) := bel_then B4.out B4.out.size HQ5.out
  have N5 : Hid (Below w1.heap.size w1 w5) := bel_then N4.out N4.out.size HQ5.out
  go_wp2_with fail
  refine (fix_readc w5 (HP.out.on B5.out)).mono ?_
  rintro e w6 ⟨rfl, q6⟩
  have HQ6 := hid q6
  clear q6
  go_wp2_with fail
  refine (fix_writec w6 (HP.out.on (bel_then B5.out B5.out.size HQ6.out))).mono ?_
  rintro e w7 ⟨rfl, q7⟩
  have S7 : Hid (Below w5.heap.size w5 w7) := bel_then HQ6.out HQ6.out.size q7
  clear q7
  have N7 : Hid (Below w1.heap.size w1 w7) := bel_then N5.out N5.out.size S7.out
  have HXN := hid (HON.out.on N7.out)
  go_wp2_with fail
  refine (fix_may _ dN w7 HXN.out.is HMN.out).mono ?_
  rintro e w8 ⟨rfl, q8⟩
  have S8 : Hid (Below w5.heap.size w5 w8) := bel_then S7.out S7.out.size q8
  clear q8
  have HXD := hid (HOD.out.on (bel_then HQ5.out HQ5.out.size S8.out))
  go_wp2_with fail
  refine (fix_size _ dD w8 HXD.out.is HMD.out).mono ?_
  rintro e w9 ⟨rfl, q9⟩
  have S9 : Hid (Below w5.heap.size w5 w9) := bel_then S8.out S8.out.size q9
  clear q9
  have HXQ := hid (HOQ.out.on S9.out)
  go_wp2_with fail
  refine (fix_equal _ dQ w9 HXQ.out.is HMQ.out).mono ?_
  rintro e w10 ⟨rfl, q10⟩
  have S10 : Hid (Below w5.heap.size w5 w10) := bel_then S9.out S9.out.size q10
  clear q10
  have HXM := hid (HON.out.on (bel_then N5.out N5.out.size S10.out))
  go_wp2_with fail
  refine (fix_textsc _ dN w10 HXM.out.is HMN.out).mono ?_
  rintro e w11 ⟨⟨pT, cT, rfl⟩, q11⟩
  have S11 : Hid (Below w5.heap.size w5 w11) := bel_then S10.out S10.out.size q11
  clear q11
  go_wp2_with fail
  go_ret
  exact ⟨rfl, bel_then B5.out B5.out.size S11.out⟩

end Go.Proofs.YtmjchokacmbkoabDoor
