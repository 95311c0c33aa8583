/-
  The contract of Print.
-/
import Derived.Test.YtmjchokacmbkoabDoorEnc
import Derived.Test.YtmjchokacmbkoabDoorWri
import Derived.Test.YtmjchokacmbkoabDoorDec1
namespace Go.Proofs.YtmjchokacmbkoabDoor
open Go.RowKit

def wordOf (n t : ByteArray) : ByteArray := n ++ ⟨#[61]⟩ ++ ⟨(writeL t.data.toList).toArray⟩
def wordsF (f : Fld) : List ByteArray := f.2.map (wordOf f.1)
def wordsL (fs : List Fld) : List ByteArray := fs.flatMap wordsF
def lineOf (fs : List Fld) : ByteArray := ⟨(Lib.join ((wordsL fs).map (·.data.toList)) [32]).toArray⟩

theorem wordsL_len {fs : List Fld} (h : ∀ f ∈ fs, fitsB f = true) (hl : fs.length ≤ 16) : (wordsL fs).length ≤ 128 := by
  have : ∀ l : List Fld, (∀ f ∈ l, fitsB f = true) → (wordsL l).length ≤ l.length * 8 := by
    intro l
    induction l with
    | nil => intro _; simp [wordsL]
    | cons f l ih =>
      intro hf
      have h1 := ih fun g hg => hf g (by simp [hg])
      have h2 := (fits_parts (hf f (by simp))).2.2.1
      have e : wordsL (f :: l) = wordsF f ++ wordsL l := rfl
      rw [e, List.length_append, List.length_cons, Nat.add_mul]
      have e2 : (wordsF f).length = f.2.length := by simp [wordsF]
      omega
  have := this fs h
  omega

theorem word_len {f : Fld} {t : ByteArray} (h : fitsB f = true) (ht : t ∈ f.2) : (wordOf f.1 t).size ≤ 417 := by
  obtain ⟨h1, _, _, h4, _⟩ := fits_parts h
  have h5 := h4 t ht
  have h6 := writeL_len t.data.toList
  have e : t.data.toList.length = t.size := by simp
  have e2 : (wordOf f.1 t).size = f.1.size + 1 + (writeL t.data.toList).length := by
    unfold wordOf
    rw [ByteArray.size_append, ByteArray.size_append]
    rfl
  omega

theorem words_len {fs : List Fld} (h : ∀ f ∈ fs, fitsB f = true) : ∀ x ∈ wordsL fs, x.size ≤ 417 := by
  intro x hx
  obtain ⟨f, hf, hx⟩ := List.mem_flatMap.1 hx
  obtain ⟨t, ht, rfl⟩ := List.mem_map.1 hx
  exact word_len (h f hf) ht

theorem join_two (l m : List UInt8) (ls : List (List UInt8)) : Lib.join (l :: m :: ls) [32] = l ++ 32 :: Lib.join (m :: ls) [32] := by simp [Lib.join, List.intercalate]

theorem join_len (ls : List (List UInt8)) (c : Nat) (h : ∀ l ∈ ls, l.length ≤ c) : (Lib.join ls [32]).length ≤ ls.length * (c + 1) := by
  induction ls with
  | nil => simp [Lib.join]
  | cons l ls ih =>
    have h1 := h l (by simp)
    have h2 := ih fun m hm => h m (by simp [hm])
    cases ls with
    | nil => simp [Lib.join]; omega
    | cons m ls =>
      rw [join_two, List.length_append, List.length_cons, List.length_cons, Nat.add_mul]
      omega

theorem join_any (ws : List ByteArray) (p : Option Addr) (cap : Nat) (w : World) {n0 : Nat} (h : OwnT n0 w (.slice p ws.length cap) ws) (hn : ws.length ≤ 128) (hs : ∀ x ∈ ws, x.size ≤ 417) :
    Calls Tryd.prog 32 #[.slice p ws.length cap, .string ⟨#[32]⟩] w fun e w' => e = .returned (.string ⟨(Lib.join (ws.map (·.data.toList)) [32]).toArray⟩) ∧ Below w.heap.size w w' := by
  rcases h.2 with ⟨_, h0⟩ | ⟨g, c, cur, hv, _, hg, hcap, _, hsz, htk⟩
  · obtain rfl := List.length_eq_zero_iff.1 h0
    refine (Tryd.strings_Join_none p cap _ w).mono ?_
    rintro e w' ⟨rfl, rfl⟩
    exact ⟨rfl, Below.refl _ _⟩
  · injection hv with hp hl hc
    subst hp
    subst hc
    refine (Tryd.strings_Join g 0 cap ws ⟨#[32]⟩ w (fun j x hj => ?_) (Array.getElem?_eq_some_iff.1 hg).1 (by omega) (by omega) ?_).mono ?_
    · have hjl := (List.getElem?_eq_some_iff.1 hj).1
      rw [Nat.zero_add, cell_of_row w g j cur _ _ hg, ← Array.getElem?_toList]
      have : (ws.map Value.string)[j]? = cur.toList[j]? := by rw [← htk, List.getElem?_take, if_pos (by omega)]
      rw [← this, List.getElem?_map, hj]; rfl
    · have h1 := join_len (ws.map (·.data.toList)) 417 (fun l hl => by
        obtain ⟨x, hx, rfl⟩ := List.mem_map.1 hl
        have := hs x hx
        simpa using this)
      rw [List.length_map] at h1
      have h2 : ws.length * 418 ≤ 128 * 418 := Nat.mul_le_mul_right _ hn
      show (Lib.join (ws.map (·.data.toList)) [32]).length ≤ _
      omega
    · rintro e w' ⟨rfl, hb⟩
      exact ⟨rfl, hb⟩

set_option maxHeartbeats 4000000 in
set_option maxRecDepth 100000 in
theorem print_no (v : Value) (d : List Fx) (w : World) (hv : IsXs w v d) (hf : FitX d) (hm : mayB (d.map Fx.fld) = false) :
    Calls Tryd.prog 15 #[v] w fun e w' => e = .returned (.tuple #[.string ⟨#[]⟩, .int .i64 3]) ∧ Grown w w' := by
  have HM := hid (may_any v d w hv hf)
  rw [hm] at HM
  clear hv
  go_enter Tryd.func15, Tryd.ntmps15
  go_wp2_with (first | (go_at_call 16; refine HM.out.mono ?_; rintro e w1 ⟨rfl, hg⟩))
  go_ret2
  exact ⟨rfl, hg⟩

set_option maxHeartbeats 4000000 in
set_option maxRecDepth 100000 in
theorem print_yes (v : Value) (d : List Fx) (w : World) (hp : PlainAt w) (hv : IsXs w v d) (hf : FitX d) (hm : mayB (d.map Fx.fld) = true) :
    Calls Tryd.prog 15 #[v] w fun e w' => e = .returned (.tuple #[.string (lineOf (d.map Fx.fld)), .int .i64 0]) ∧ Below w.heap.size w w' := by
  have HM := hid (may_any v d w hv hf)
  rw [hm] at HM
  have HP := hid hp
  obtain ⟨i0, hi, hz0, hz1, hz2⟩ := info_parts Tryd.infoStr
  have HI := hid hi
  obtain ⟨p, cap, rfl, hd, ht⟩ := hv
  have HT := hid ht
  have hl := hf.1
  unfold maxLen at hl
  have HD := hid hd
  have HMM := hid hm
  clear ht hf hd hm hi hp
  go_enter Tryd.func15, Tryd.ntmps15
  go_wp2_with (first | (go_at_call 16; refine HM.out.mono ?_; rintro e w1 ⟨rfl, hg⟩))
  go_loopg [4, 14] d.length (fun g vb vi wr => ∃ i : Nat, vi = .int .i64 i ∧ i ≤ d.length ∧ d.length - i ≤ g ∧ Below w.heap.size w wr ∧ OwnT w.heap.size wr vb (wordsL ((d.map Fx.fld).take i)))
  case atStart => exact ⟨0, rfl, by omega, by omega, hg.below, World.ownsRow_nil _ _ _ _⟩
  case round =>
    obtain ⟨i, rfl, hi, hgk, hb, hob⟩ := hrel
    by_cases hlt : i < d.length
    · have hltz : (i : Int) < (d.length : Int) := by omega
      have hiz : (0 : Int) ≤ i := by omega
      obtain ⟨b, off, rfl, hxs⟩ : ∃ b off, p = some ⟨b, off, none⟩ ∧ XsAt w b off d := by
        rcases HD.out with h | h
        · subst h; simp at hlt
        · exact h
      obtain ⟨c0, c1⟩ := hxs.kept hb i hlt
      have hxi : (d[i]).at w := HT.out _ (List.getElem_mem hlt)
      have hfi : fitsB (d[i]).fld = true := may_fits HMM.out _ (List.mem_map.2 ⟨_, List.getElem_mem hlt, rfl⟩)
      have htk : wordsL ((d.map Fx.fld).take (i + 1)) = wordsL ((d.map Fx.fld).take i) ++ wordsF (d[i]).fld := by
        unfold wordsL
        rw [List.take_succ_eq_append_getElem (by rw [List.length_map]; exact hlt), List.flatMap_append]
        simp
      obtain ⟨x, hx⟩ : ∃ x, d[i] = x := ⟨_, rfl⟩
      rw [hx] at c0 c1 hxi hfi htk
      obtain ⟨b2, off2, hp2, ht2⟩ : ∃ b off, x.p = some ⟨b, off, none⟩ ∧ ∀ i, (h : i < x.txt.length) → w.cell? ⟨b, off + i, none⟩ = some (.string x.txt[i]) := by
        rcases hxi with h | h
        · have := (fits_parts hfi).2.1
          simp only [Fx.fld] at this
          rw [h] at this; simp at this
        · exact h
      have hal : (wordsL ((d.map Fx.fld).take i)).length ≤ 128 := wordsL_len (fun f hf => may_fits HMM.out f (List.mem_of_mem_take hf)) (by rw [List.length_take]; have := (may_parts HMM.out).1; omega)
      obtain ⟨acc, hacc⟩ : ∃ acc, wordsL ((d.map Fx.fld).take i) = acc := ⟨_, rfl⟩
      rw [hacc] at hob htk hal
      obtain ⟨hn32, _, hn8, _⟩ := fits_parts hfi
      have HT2 := hid ht2
      have HFI := hid hfi
      have HTK := hid htk
      have HOB := hid hob
      have HB := hid hb
      have hsz := hb.size
      clear hxs hxi hx htk hacc hob hfi ht2
      unfold Fx.sl at c1
      rw [hp2] at c1
      clear hp2
      simp only [Fx.fld] at hn32 hn8
      go_wp2_with fail
      obtain ⟨F, hF⟩ : ∃ F, wr.heap.size = F := ⟨_, rfl⟩
      have hbox : (wr.alloc (.cells #[.string x.name, .slice (some ⟨b2, off2, none⟩) x.txt.length x.cap] 30)).heap[F]? = some (.cells #[.string x.name, .slice (some ⟨b2, off2, none⟩) x.txt.length x.cap] 30 (0, 0)) := by rw [← hF]; exact heap_alloc_new wr _
      have hbb : Below w.heap.size w (wr.alloc (.cells #[.string x.name, .slice (some ⟨b2, off2, none⟩) x.txt.length x.cap] 30)) := HB.out.alloc hsz _
      have hoo : OwnT w.heap.size (wr.alloc (.cells #[.string x.name, .slice (some ⟨b2, off2, none⟩) x.txt.length x.cap] 30)) u4 acc := HOB.out.on ((Below.refl _ _).alloc (Nat.le_refl _) _)
      have hwF : w.heap.size ≤ F := by omega
      rw [hF]
      go_loopg [4, 21] x.txt.length (fun g vb vj wr2 => ∃ j : Nat, vj = .int .i64 j ∧ j ≤ x.txt.length ∧ x.txt.length - j ≤ g ∧ Below w.heap.size w wr2 ∧ wr2.heap[F]? = some (.cells #[.string x.name, .slice (some ⟨b2, off2, none⟩) x.txt.length x.cap] 30 (0, 0)) ∧ OwnT w.heap.size wr2 vb (acc ++ (x.txt.take j).map (wordOf x.name)))
      case atStart => exact ⟨0, rfl, by omega, by omega, hbb, hbox, by simpa using hoo⟩
      case round =>
        obtain ⟨j, rfl, hj, hgj, hbj, hbxj, hobj⟩ := hrel
        by_cases hlj : j < x.txt.length
        · have hljz : (j : Int) < (x.txt.length : Int) := by omega
          have hjz : (0 : Int) ≤ j := by omega
          have t0 : wr.cell? ⟨b2, off2 + j, none⟩ = some (.string x.txt[j]) := (hbj.cell (p := ⟨b2, off2 + j, none⟩) (cell_block (HT2.out j hlj))).trans (HT2.out j hlj)
          have hts : x.txt[j].size ≤ 128 := (fits_parts HFI.out).2.2.2.1 _ (List.getElem_mem hlj)
          have hstep : (x.txt.take (j + 1)).map (wordOf x.name) = (x.txt.take j).map (wordOf x.name) ++ [wordOf x.name x.txt[j]] := by
            rw [List.take_succ_eq_append_getElem hlj, List.map_append]; simp
          obtain ⟨t, hte⟩ : ∃ t, x.txt[j] = t := ⟨_, rfl⟩
          rw [hte] at t0 hts hstep
          have q0 : wr.cell? ⟨F, 0, none⟩ = some (.string x.name) := by rw [Lib.cell_of_heap hbxj]; rfl
          have hFl : F < wr.heap.size := (Array.getElem?_eq_some_iff.1 hbxj).1
          obtain ⟨ac2, hac2⟩ : ∃ ac2, acc ++ (x.txt.take j).map (wordOf x.name) = ac2 := ⟨_, rfl⟩
          have hal2 : ac2.length ≤ 200 := by rw [← hac2]; simp; omega
          rw [hac2] at hobj
          have HW := hid (write_any t wr.drew (HP.out.on hbj.drew) (by omega))
          have HST := hid hstep
          have HOJ := hid hobj
          have HBJ := hid hbj
          have HBX := hid hbxj
          have HAC2 := hid hac2
          have hszj := hbj.size
          clear hte hstep hobj hbj hbxj hac2
          have hwl2 := writeL_len t.data.toList
          have hwl3 : t.data.toList.length = t.size := by simp
          obtain ⟨wt, hwt⟩ : ∃ wt : ByteArray, ⟨(writeL t.data.toList).toArray⟩ = wt := ⟨_, rfl⟩
          have hwts : wt.size ≤ 384 := by rw [← hwt]; show (writeL t.data.toList).toArray.size ≤ 384; rw [List.size_toArray]; omega
          rw [hwt] at HW
          obtain ⟨nq, hnq⟩ : ∃ nq : ByteArray, x.name ++ ⟨#[61]⟩ = nq := ⟨_, rfl⟩
          have hnqs : nq.size ≤ 33 := by rw [← hnq, ByteArray.size_append]; show x.name.size + 1 ≤ 33; omega
          obtain ⟨wd, hwd⟩ : ∃ wd : ByteArray, nq ++ wt = wd := ⟨_, rfl⟩
          have HWD : Hid (wordOf x.name t = wd) := by show _ = _; rw [← hwd, ← hnq, ← hwt]; rfl
          have hA : ∀ w, Sem.run Tryd.prog (Op.stringOp .add x.name ⟨#[61]⟩) w = .ok (.string nq) w := fun w => by rw [← hnq]; exact run_string_add_sum _ _ _ (by show x.name.size + 1 ≤ _; omega)
          have hB : ∀ w, Sem.run Tryd.prog (Op.stringOp .add nq wt) w = .ok (.string wd) w := fun w => by rw [← hwd]; exact run_string_add_sum _ _ _ (by omega)
          clear hwl2 hwl3 hwt hnq hwd hwts hnqs
          have KS : Hid (∀ w' : World, w'.heap[F]? = wr.heap[F]? → w'.cell? ⟨F, 0, none⟩ = some (.string x.name)) := fun w' e => by
            rw [Lib.cell_of_heap (e.trans HBX.out)]; rfl
          have KA : Hid (∀ w3 w4 : World, w3.heap[F]? = wr.heap[F]? → OwnT w.heap.size w3 u4 ac2 → w3.grownBy w4 u4.ownBlock → w4.heap[F]? = wr.heap[F]?) := fun w3 w4 e ho hg => by
            refine (hg.block F (Array.getElem?_eq_some_iff.1 (e.trans HBX.out)).1 fun e' => ?_).trans e
            rcases ho.2 with ⟨hv, _⟩ | ⟨g, c, cur, hv, _, hgb, _⟩
            · rw [hv] at e'; cases e'
            · rw [hv] at e'
              have : F = g := by simpa [Value.ownBlock] using e'
              subst this
              rw [e, HBX.out] at hgb
              injection hgb with hgb
              injection hgb with _ hgb
              exact absurd hgb (by decide)
          go_wp2_with fail
          go_region_held3 (fun w' => w'.cell? ⟨F, 0, none⟩ = some (.string x.name))
            (first | exact q0 | exact q2 | exact q3 | exact q4)
            (first | (go_at_call 22; refine HW.out.mono ?_; rintro o w2 ⟨rfl, hb2⟩; have e2 := hb2.block F hFl; have q2 := KS.out _ e2; have e3 := fun o => (Below.heap_alloc w2 o F (Nat.lt_of_lt_of_le hFl hb2.size)).trans e2; have e3w := e3 (.cells #[.string wd] 9); have q3 := KS.out _ e3w; have hbase3 : w.heap.size ≤ (w2.alloc (.cells #[.string wd] 9)).heap.size := (by have := hb2.size; simp at this ⊢; omega); have hown3 : OwnT w.heap.size (w2.alloc (.cells #[.string wd] 9)) u4 ac2 := (OwnT.on (w := wr.drew) HOJ.out hb2).on ((Below.refl _ _).alloc (Nat.le_refl _) _)) | (refine step_append_lies _ (by rfl) (.tmp 25) (.tmp 32) 28 (by rfl) w.heap.size 9 i0 (.string ⟨#[]⟩) 1 16 Tryd.underlying28 HI.out hz0 hz1 hz2 rfl (by decide) u4 ac2.length (ac2.map Value.string) (by rfl) (by assumption) _ 1 1 [.string wd] (by rfl) rfl (by intro j u hj; match j, hj with | 0, hj => simp at hj; subst hj; simp [Addr.add]) (by intro u hu; simp at hu; subst hu; rfl) (by decide) (by unfold maxLen; omega) (by omega) (by assumption) _ rfl ?_; intro g cap w4 hown4 hg4 hat4 hlt4; have e4 := KA.out _ _ (by assumption) (by assumption) hg4; have q4 := KS.out _ e4))
          have hbw : Below w.heap.size w w4 := (((HBJ.out.drew.trans (hb2.mono (by simpa using hszj))).alloc (by have := hb2.size; simp at this ⊢; omega) _).grown hg4 hbase3 (fun k hk => (World.ownsRow.lt hown3 k hk).1))
          have HF4 : Hid (Below w.heap.size w w4 ∧ w4.heap[F]? = some (.cells #[.string x.name, .slice (some ⟨b2, off2, none⟩) x.txt.length x.cap] 30 (0, 0)) ∧ OwnT w.heap.size w4 (.slice (some ⟨g, 0, none⟩) (ac2.length + 1) cap) (acc ++ (x.txt.take (j + 1)).map (wordOf x.name))) := by
            refine ⟨hbw, e4.trans HBX.out, ?_⟩
            have e5 : acc ++ (x.txt.take (j + 1)).map (wordOf x.name) = ac2 ++ [wd] := by rw [HST.out, ← List.append_assoc, HAC2.out, HWD.out]
            rw [e5]
            unfold OwnT
            rw [List.length_append, List.map_append]
            exact hown4
          clear hbw hown4 hg4 hown3 e4 e3w e3 e2 hb2 q4 q3 q2 hat4 hlt4
          go_wp2_with fail
          go_roundg (x.txt.length - (j + 1))
          case measure => omega
          exact ⟨j + 1, by go_num, by omega, by omega, HF4.out⟩
        · have hljz : ¬ (j : Int) < (x.txt.length : Int) := by omega
          have htk2 : x.txt.take j = x.txt := List.take_of_length_le (by omega)
          rw [htk2] at hobj
          have HOJ := hid hobj
          have HBJ := hid hbj
          clear hobj hbj htk2 hbxj
          go_wp2_with fail
          go_roundg (d.length - (i + 1))
          case measure => omega
          refine ⟨i + 1, by go_num, by omega, by omega, HBJ.out, ?_⟩
          rw [HTK.out]
          exact HOJ.out
    · have hltz : ¬ (i : Int) < (d.length : Int) := by omega
      have htk2 : (d.map Fx.fld).take i = d.map Fx.fld := List.take_of_length_le (by rw [List.length_map]; omega)
      rw [htk2] at hob
      have hwn : (wordsL (d.map Fx.fld)).length ≤ 128 := wordsL_len (may_fits HMM.out) (may_parts HMM.out).1
      have hws := words_len (may_fits HMM.out)
      have HLN : Hid (lineOf (d.map Fx.fld) = ⟨(Lib.join ((wordsL (d.map Fx.fld)).map (·.data.toList)) [32]).toArray⟩) := rfl
      obtain ⟨ws, hwe⟩ : ∃ ws, wordsL (d.map Fx.fld) = ws := ⟨_, rfl⟩
      rw [hwe] at hob hwn hws HLN
      clear htk2 hwe
      obtain ⟨p4, cap4, rfl⟩ : ∃ p cap, u4 = .slice p ws.length cap := by
        rcases hob.2 with ⟨hv, h0⟩ | ⟨g, cap, cur, hv, _⟩
        · exact ⟨none, 0, by rw [hv, h0]⟩
        · exact ⟨_, _, hv⟩
      have HJ := hid (join_any ws p4 cap4 wr hob hwn hws)
      clear hob hws hwn
      go_wp2_with (first | (go_at_call 32; refine HJ.out.mono ?_; rintro e w2 ⟨rfl, hb2⟩))
      go_ret2
      rw [HLN.out]
      exact ⟨rfl, hb.trans (hb2.mono hb.size)⟩

end Go.Proofs.YtmjchokacmbkoabDoor
