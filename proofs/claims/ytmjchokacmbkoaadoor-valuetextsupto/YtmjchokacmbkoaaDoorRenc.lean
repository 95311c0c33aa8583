/-
  The contracts of the reference's put and Encode.
-/
import Derived.Test.YtmjchokacmbkoaaDoorRmay
import Derived.Test.YtmjchokacmbkoaaDoorSiz
namespace Go.Proofs.YtmjchokacmbkoaaDoor
open Go.RowKit

theorem new_byte (w : World) (c : Int) : ∀ j u, ([.int .u8 c] : List Value)[j]? = some u → (w.alloc (.cells #[.int .u8 c] 5)).cell? ((⟨w.heap.size, 0, none⟩ : Addr).add j) = some u := by
  intro j u hj
  match j, hj with
  | 0, hj => simp at hj; subst hj; simp [Addr.add]

theorem one_byte (c : Int) : ∀ u ∈ ([.int .u8 c] : List Value), u.oneCell' = true := by intro u hu; simp at hu; subst hu; rfl

theorem ownB_put {n0 : Nat} {w : World} {v : Value} {bs : List UInt8} {c : UInt8} {k : Int} {n : Nat} (h : w.ownsRow n0 5 1 v n (Lib.byteCells bs ++ [.int .u8 k])) (hn : n = bs.length + 1) (hk : (c.toNat : Int) = k) : OwnB n0 w v (bs ++ [c]) := by
  subst hn
  unfold OwnB
  have e2 : Lib.byteCells (bs ++ [c]) = Lib.byteCells bs ++ [.int .u8 k] := by simp [Lib.byteCells, hk]
  rw [e2, List.length_append]
  exact h

set_option maxHeartbeats 2000000 in
set_option maxRecDepth 100000 in
theorem rput_any (n0 : Nat) (v : Value) (bs : List UInt8) (t : ByteArray) (w : World) (hown : OwnB n0 w v bs) (hn : n0 ≤ w.heap.size) (hs : bs.length + 1 + t.size ≤ 140737488355328) :
    Calls Tryd.prog 38 #[v, .string t] w fun e w' => ∃ v', e = .returned v' ∧ OwnB n0 w' v' (bs ++ encT t) ∧ Below n0 w w' := by
  obtain ⟨i0, hi, hz0, hz1, hz2⟩ := info_parts Tryd.infoByte
  have HO := hid hown
  unfold OwnB at hown
  go_enter Tryd.func38, Tryd.ntmps38
  go_wp2_with (at_builtin; refine wpList_append_own _ rfl _ _ 29 rfl n0 5 i0 (.int .u8 0) 1 1 Tryd.underlying29 hi hz0 hz1 hz2 rfl (by decide) _ _ _ rfl (hown.alloc _) ⟨w.heap.size, 0, none⟩ 1 1 [.int .u8 ((t.size : Int) % 256)] rfl rfl (new_byte _ _) (one_byte _) (by unfold maxLen; omega) (by omega) (by simp; omega) ?_)
  intro v1 w1 hown1 hg1 _
  have hb1 : Below n0 w w1 := ((Below.refl n0 w).alloc hn _).grown hg1 (by simp; omega) (fun k hk => (hown.lt k hk).1)
  have hob1 : OwnB n0 w1 v1 (bs ++ [UInt8.ofNat t.size]) := ownB_put hown1 rfl (by simp)
  have HB1 := hid hb1
  have HOB1 := hid hob1
  have HI := hid hi
  clear hown1 hg1 hb1 hob1 hown hi
  go_wp2_with fail
  go_loopg [0, 5] t.size (fun g vb vi wr => ∃ i : Nat, vi = .int .i64 i ∧ i ≤ t.size ∧ t.size - i ≤ g ∧ Below n0 w wr ∧ OwnB n0 wr vb (bs ++ [UInt8.ofNat t.size] ++ t.data.toList.take i))
  case atStart => exact ⟨0, rfl, by omega, by omega, HB1.out, by simpa using HOB1.out⟩
  case round =>
    obtain ⟨i, rfl, hi, hgk, hb, hob⟩ := hrel
    by_cases hlt : i < t.size
    · have hltz : (i : Int) < (t.size : Int) := by omega
      have hiz : (0 : Int) ≤ i := by omega
      have hsz := hb.size
      have htk : t.data.toList.take (i + 1) = t.data.toList.take i ++ [t[i]] := by
        rw [List.take_succ_eq_append_getElem (by simpa using hlt)]
        rfl
      obtain ⟨acc, hacc⟩ : ∃ acc, bs ++ [UInt8.ofNat t.size] ++ t.data.toList.take i = acc := ⟨_, rfl⟩
      have hal : acc.length = bs.length + 1 + i := by
        rw [← hacc, List.length_append, List.length_append, List.length_take]
        simp
        omega
      rw [hacc] at hob
      have HACC := hid hacc
      have HOB := hid hob
      have HB := hid hb
      have HTK := hid htk
      clear hacc hob hb htk
      go_wp2_with (at_builtin; refine wpList_append_own _ rfl _ _ 29 rfl n0 5 i0 (.int .u8 0) 1 1 Tryd.underlying29 HI.out hz0 hz1 hz2 rfl (by decide) _ _ _ rfl (World.ownsRow.alloc HOB.out _) ⟨wr.heap.size, 0, none⟩ 1 1 [.int .u8 (t[i].toNat : Int)] rfl rfl (new_byte _ _) (one_byte _) (by unfold maxLen; omega) (by omega) (by simp; omega) ?_)
      intro v3 w3 hown3 hg3 _
      have hob3 : OwnB n0 w3 v3 (acc ++ [t[i]]) := ownB_put hown3 (by omega) rfl
      have hb3 : Below n0 w w3 := (HB.out.alloc (by omega) _).grown hg3 (by simp; omega) (fun k hk => (World.ownsRow.lt HOB.out k hk).1)
      have HOB3 := hid hob3
      have HB3 := hid hb3
      clear hown3 hg3 hob3 hb3
      go_wp2_with fail
      go_roundg (t.size - (i + 1))
      case measure => omega
      refine ⟨i + 1, by go_num, by omega, by omega, HB3.out, ?_⟩
      rw [HTK.out, ← List.append_assoc, HACC.out]
      exact HOB3.out
    · have hltz : ¬ (i : Int) < (t.size : Int) := by omega
      have htk2 : t.data.toList.take i = t.data.toList := List.take_of_length_le (by simp; omega)
      rw [htk2] at hob
      have HOJ := hid hob
      clear hob htk2
      go_wp2_with fail
      go_ret
      refine ⟨_, rfl, ?_, hb⟩
      have e : bs ++ encT t = bs ++ [UInt8.ofNat t.size] ++ t.data.toList := by simp [encT]
      rw [e]
      exact HOJ.out

set_option maxHeartbeats 4000000 in
set_option maxRecDepth 100000 in
theorem rencode_no (v : Value) (d : List Fx) (w : World) (hv : IsXs w v d) (hf : FitX d) (hm : mayB (d.map Fx.fld) = false) :
    Calls Tryd.prog 16 #[v] w fun e w' => e = .returned (.tuple #[.slice none 0 0, .int .i64 3]) ∧ Grown w w' := by
  have HM := hid (rmay_any v d w hv hf)
  rw [hm] at HM
  clear hv
  go_enter Tryd.func16, Tryd.ntmps16
  go_wp2_with (first | (go_at_call 14; refine HM.out.mono ?_; rintro e w1 ⟨rfl, hg⟩))
  go_ret2
  exact ⟨rfl, hg⟩

set_option maxHeartbeats 4000000 in
set_option maxRecDepth 100000 in
theorem rencode_yes (v : Value) (d : List Fx) (w : World) (hv : IsXs w v d) (hf : FitX d) (hm : mayB (d.map Fx.fld) = true) :
    Calls Tryd.prog 16 #[v] w fun e w' => (∃ u, e = .returned (.tuple #[u, .int .i64 0]) ∧ OwnB w.heap.size w' u (encL (d.map Fx.fld))) ∧ Below w.heap.size w w' := by
  have HM := hid (rmay_any v d w hv hf)
  rw [hm] at HM
  obtain ⟨i0, hi, hz0, hz1, hz2⟩ := info_parts Tryd.infoByte
  obtain ⟨p, cap, rfl, hd, ht⟩ := hv
  have HT := hid ht
  have HF := hid hf.2
  have hl := hf.1
  unfold maxLen at hl
  have HD := hid hd
  have HI := hid hi
  clear hi
  have HMM := hid hm
  clear ht hf hd hm
  go_enter Tryd.func16, Tryd.ntmps16
  go_wp2_with (first | (go_at_call 14; refine HM.out.mono ?_; rintro e w1 ⟨rfl, hg⟩))
  go_loopg [4, 5] d.length (fun g vb vi wr => ∃ i : Nat, vi = .int .i64 i ∧ i ≤ d.length ∧ d.length - i ≤ g ∧ Below w.heap.size w wr ∧ OwnB w.heap.size wr vb (UInt8.ofNat d.length :: ((d.map Fx.fld).take i).flatMap encF))
  case atStart =>
    refine ⟨0, rfl, by omega, by omega, (hg.below).alloc hg.below.size _, ?_⟩
    have := World.ownsRow_lit (base := w.heap.size) (e := 5) (size := 1) w1 #[.int .u8 ((d.length : Int) % 256)] 1 hg.below.size (by decide) rfl
    unfold OwnB
    simpa [Lib.byteCells] using this
  case round =>
    obtain ⟨i, rfl, hi, hgk, hb, hob⟩ := hrel
    by_cases hlt : i < d.length
    · have hltz : (i : Int) < (d.length : Int) := by omega
      have hiz : (0 : Int) ≤ i := by omega
      obtain ⟨b, off, rfl, hxs⟩ : ∃ b off, p = some ⟨b, off, none⟩ ∧ XsAt w b off d := by
        rcases HD.out with h | h
        · subst h; simp at hlt
        · exact h
      obtain ⟨a0, a1⟩ := hxs i hlt
      obtain ⟨c0, c1⟩ := hxs.kept hb i hlt
      have hxi : (d[i]).at w := HT.out _ (List.getElem_mem hlt)
      have hfi : fitsB (d[i]).fld = true := may_fits HMM.out _ (List.mem_map.2 ⟨_, List.getElem_mem hlt, rfl⟩)
      have htk : ((d.map Fx.fld).take (i + 1)).flatMap encF = ((d.map Fx.fld).take i).flatMap encF ++ encF (d[i]).fld := by
        rw [List.take_succ_eq_append_getElem (by rw [List.length_map]; exact hlt), List.flatMap_append]
        simp
      obtain ⟨x, hx⟩ : ∃ x, d[i] = x := ⟨_, rfl⟩
      rw [hx] at a0 a1 c0 c1 hxi hfi htk
      obtain ⟨b2, off2, hp2, ht2⟩ : ∃ b off, x.p = some ⟨b, off, none⟩ ∧ ∀ i, (h : i < x.txt.length) → w.cell? ⟨b, off + i, none⟩ = some (.string x.txt[i]) := by
        rcases hxi with h | h
        · have := (fits_parts hfi).2.1
          simp only [Fx.fld] at this
          rw [h] at this; simp at this
        · exact h
      have HT2 := hid ht2
      have HFI := hid hfi
      have HTK := hid htk
      have hal := enc_ahead HMM.out i
      obtain ⟨acc, hacc⟩ : ∃ acc, UInt8.ofNat d.length :: ((d.map Fx.fld).take i).flatMap encF = acc := ⟨_, rfl⟩
      have hacl : acc.length ≤ 17057 := by rw [← hacc, List.length_cons]; omega
      rw [hacc] at hob
      obtain ⟨hn32, _, hn8, _⟩ := fits_parts hfi
      have HOB := hid hob
      have HACC := hid hacc
      have HB := hid hb
      have hsz := hb.size
      unfold Fx.sl at c1 a1
      rw [hp2] at c1 a1
      have FA : Hid (∀ W, Below w.heap.size w W → W.cell? ⟨b, off + i * 2 + 1, none⟩ = some (.slice (some ⟨b2, off2, none⟩) x.txt.length x.cap)) := fun W h => (h.cell (p := ⟨b, off + i * 2 + 1, none⟩) (cell_block a1)).trans a1
      clear hxs hxi hx htk hal hacc hob hfi ht2 a0 a1 hb
      clear hp2
      simp only [Fx.fld] at hn32 hn8
      go_wp2_with (first | (go_at_call 38; refine (rput_any w.heap.size _ acc _ _ HOB.out hsz (by omega)).mono ?_; rintro e w2 ⟨v2, rfl, hob2, hb2⟩; have hbw : Below w.heap.size w w2 := HB.out.trans hb2; have g1 := FA.out _ hbw; have hsz2 := hbw.size) | (at_builtin; refine wpList_append_own _ rfl _ _ 29 rfl w.heap.size 5 i0 (.int .u8 0) 1 1 Tryd.underlying29 HI.out hz0 hz1 hz2 rfl (by decide) _ _ _ rfl (World.ownsRow.alloc hob2 _) ⟨w2.heap.size, 0, none⟩ 1 1 [.int .u8 (x.txt.length : Int)] rfl rfl (new_byte _ _) (one_byte _) ?c3 ?c4 ?c5 ?_))
      case c3 => unfold maxLen; simp [encT_len]; omega
      case c4 => simp [encT_len]; omega
      case c5 => simp; omega
      intro v3 w3 hown3 hg3 _
      have hbw3 : Below w.heap.size w w3 := (hbw.alloc hbw.size _).grown hg3 (by simp; omega) (fun k hk => (World.ownsRow.lt hob2 k hk).1)
      have hob3 : OwnB w.heap.size w3 v3 (acc ++ encT x.name ++ [UInt8.ofNat x.txt.length]) := ownB_put hown3 (by simp) (by simp; omega)
      have HOB3 := hid hob3
      have HBW3 := hid hbw3
      clear hown3 hg3 hob2 hbw hob3 hbw3 hb2 g1 c0 c1 hsz2
      obtain ⟨ac2, hac2⟩ : ∃ ac2, acc ++ encT x.name ++ [UInt8.ofNat x.txt.length] = ac2 := ⟨_, rfl⟩
      have hac2l : ac2.length ≤ 17100 := by rw [← hac2]; simp [encT_len]; omega
      have HAC2 := hid hac2
      rw [hac2] at HOB3
      clear hac2
      go_wp2_with fail
      go_loopg [4, 6] x.txt.length (fun g vb vj wr2 => ∃ j : Nat, vj = .int .i64 j ∧ j ≤ x.txt.length ∧ x.txt.length - j ≤ g ∧ Below w.heap.size w wr2 ∧ OwnB w.heap.size wr2 vb (ac2 ++ (x.txt.take j).flatMap encT))
      case atStart => exact ⟨0, rfl, by omega, by omega, HBW3.out, by simpa using HOB3.out⟩
      case round =>
        obtain ⟨j, rfl, hj, hgj, hbj, hobj⟩ := hrel
        have g2 := FA.out _ hbj
        by_cases hlj : j < x.txt.length
        · have hljz : (j : Int) < (x.txt.length : Int) := by omega
          have hjz : (0 : Int) ≤ j := by omega
          have t0 : wr.cell? ⟨b2, off2 + j, none⟩ = some (.string x.txt[j]) := (hbj.cell (p := ⟨b2, off2 + j, none⟩) (cell_block (HT2.out j hlj))).trans (HT2.out j hlj)
          have hts : x.txt[j].size ≤ 128 := (fits_parts HFI.out).2.2.2.1 _ (List.getElem_mem hlj)
          have htl := fits_texts HFI.out j
          simp only [Fx.fld] at htl
          have hstep : (x.txt.take (j + 1)).flatMap encT = (x.txt.take j).flatMap encT ++ encT x.txt[j] := by
            rw [List.take_succ_eq_append_getElem hlj, List.flatMap_append]; simp
          obtain ⟨t, hte⟩ : ∃ t, x.txt[j] = t := ⟨_, rfl⟩
          rw [hte] at t0 hts hstep
          have HST := hid hstep
          have HOJ := hid hobj
          have HBJ := hid hbj
          have hszj := hbj.size
          clear hte hstep hobj hbj
          go_wp2_with (first | (go_at_call 38; refine (rput_any w.heap.size _ _ _ _ HOJ.out hszj (by rw [List.length_append]; omega)).mono ?_; rintro e w4 ⟨v4, rfl, hob4, hb4⟩))
          go_roundg (x.txt.length - (j + 1))
          case measure => omega
          refine ⟨j + 1, by go_num, by omega, by omega, HBJ.out.trans hb4, ?_⟩
          rw [HST.out, ← List.append_assoc]
          exact hob4
        · have hljz : ¬ (j : Int) < (x.txt.length : Int) := by omega
          have htk2 : x.txt.take j = x.txt := List.take_of_length_le (by omega)
          rw [htk2] at hobj
          have HOJ := hid hobj
          have HBJ := hid hbj
          clear hobj hbj htk2
          go_wp2_with fail
          go_roundg (d.length - (i + 1))
          case measure => omega
          refine ⟨i + 1, by go_num, by omega, by omega, HBJ.out, ?_⟩
          rw [HTK.out]
          have e3 : UInt8.ofNat d.length :: (((d.map Fx.fld).take i).flatMap encF ++ encF x.fld) = ac2 ++ x.txt.flatMap encT := by
            rw [← HAC2.out, ← HACC.out]
            simp [encF, Fx.fld]
          rw [e3]
          exact HOJ.out
    · have hltz : ¬ (i : Int) < (d.length : Int) := by omega
      have htk2 : (d.map Fx.fld).take i = d.map Fx.fld := List.take_of_length_le (by rw [List.length_map]; omega)
      rw [htk2] at hob
      have HOJ := hid hob
      clear hob htk2
      go_wp2_with fail
      go_ret2
      refine ⟨⟨_, rfl, ?_⟩, hb⟩
      unfold encL
      rw [List.length_map]
      exact HOJ.out

end Go.Proofs.YtmjchokacmbkoaaDoor
