/-
  ValueKeeps answers true, where the fields and their texts are few enough to be copied.
-/
import Derived.Test.YtmjchokacmbkoabDoorPc
import Derived.Deep.CutRange
namespace Go.Proofs.YtmjchokacmbkoabDoor
open Go.RowKit Go.Lib

theorem strs_size : (Tryd.prog.info? 9).map (·.size) = some 1 := by kernel_rfl

theorem splice_at (ts : List ByteArray) : (splice (List.replicate (ts.length + 2) (Value.string ⟨#[]⟩)) 0 (ts.map Value.string))[ts.length]? = some (.string ⟨#[]⟩) := by
  simp [splice]

theorem new_one {T : TypeId} (w : World) (u : Value) : ∀ m x, ([u] : List Value)[m]? = some x → (w.alloc (.cells #[u] T)).cell? ((⟨w.heap.size, 0, none⟩ : Addr).add m) = some x := by
  intro m x hm
  match m, hm with
  | 0, hm => simp at hm; subst hm; simp [Addr.add]

theorem sl_one (p : Option Addr) (n c : Nat) : ∀ u ∈ ([.slice p n c] : List Value), u.oneCell' = true := by
  intro u hu; simp at hu; subst hu; rfl

theorem copy_room (W : World) (g n xc : Nat) (xp : Option Addr) (L0 T1 : List Value) (hT : T1.length = n) (hL : L0.length = n + 2) (hg : W.heap[g]? = some (.cells L0.toArray 9 (0, 0)))
    (hsrc : 0 < T1.length → ∃ ad, xp = some ad ∧ ∀ j u, T1[j]? = some u → W.cell? (ad.add j) = some u) (h1 : ∀ u ∈ T1, u.oneCell' = true) :
    ∃ w3, (∀ ty, (Builtin.copy_ #[28, 28] ty #[.slice (some ⟨g, 0, none⟩) n (n + 2), .slice xp n xc]).run Tryd.prog W = .ok (goInt n) w3) ∧ w3.heap[g]? = some (.cells (splice L0 0 T1).toArray 9 (0, 0)) ∧ W.grownBy w3 (some g) := by
  subst hT
  by_cases h0 : T1.length = 0
  · obtain rfl := List.length_eq_zero_iff.1 h0
    refine ⟨W, fun ty => run_copy_none (P := Tryd.prog) W _ _ ty 9 _ _ 0 _ 0 _ Tryd.underlying28 strs_size rfl, ?_, grownBy_refl _ _⟩
    rw [hg]
    simp [splice]
  · obtain ⟨ad, rfl, hs⟩ := hsrc (by omega)
    refine ⟨_, fun ty => run_copy_row (P := Tryd.prog) W _ _ ty 9 g 0 T1.length (T1.length + 2) ad T1.length xc L0.toArray 9 T1 Tryd.underlying28 strs_size hg (by simp) hs (by simp; omega) h1, ?_, ?_⟩
    · rw [setRow_heap W g _ _ _ _ hg]
      simp [splice]
    · exact ⟨rfl, rfl, rfl, by simp [World.setRow], fun k _ hne => setRow_other W g k _ (fun e => hne (by rw [e]))⟩

theorem txt_one1 (t : ByteArray) : ∀ u ∈ ([.string t] : List Value), u.oneCell' = true := by
  intro u hu; simp at hu; subst hu; rfl

theorem textsOf_len (fs : List Fld) (nm : ByteArray) : (textsOf fs nm).length ≤ totF fs := by
  unfold textsOf
  cases hfd : fs.find? fun f => decide (f.1 = nm) with
  | none => simp
  | some f => exact totF_mem (List.mem_of_find?_eq_some hfd)

/-- One room more. -/
theorem room_new {w3 : World} {N S : Nat} {nm : ByteArray} {xt : List ByteArray} (hN : N ≤ S + 1) (h : w3.heap[S + 1]? = some (.cells (splice (List.replicate (xt.length + 2) (Value.string ⟨#[]⟩)) 0 (xt.map Value.string)).toArray 9 (0, 0))) :
    RoomAt N (w3.setCell ⟨S + 1, xt.length, none⟩ (.string markA)) ⟨nm, some ⟨S + 1, 0, none⟩, xt.length + 2, xt⟩ := by
  refine ⟨S + 1, rfl, rfl, hN, ?_⟩
  rw [heap_setCell_same w3 (S + 1) xt.length _ _ _ h, room_cells]

set_option maxHeartbeats 8000000 in
set_option maxRecDepth 100000 in
theorem keeps_any (v : Value) (d : List Fx) (w : World) (hp : PlainAt w) (hv : IsXs w v d) (hf : FitX d) (hl : d.length ≤ 2000000) (htot : totF (d.map Fx.fld) ≤ 2000000) :
    Calls Tryd.prog 4 #[v] w fun e w' => e = .returned (.bool true) ∧ Below w.heap.size w w' := by
  obtain ⟨j0, hj0, hy0, hy1, hy2⟩ := info_parts Tryd.infoFld
  obtain ⟨i0, hi0, hz0, hz1, hz2⟩ := info_parts Tryd.infoStr
  obtain ⟨k0, hk0, hx0, hx1, hx2⟩ := info_parts Tryd.infoTs
  have HJ := hid hj0
  have HI := hid hi0
  have HK := hid hk0
  have HMK : Hid (∀ (n : Nat), n ≤ 2000000 → ∀ W : World, (Instr.makeSlice 28 (.int .i64 (n : Int)) (.int .i64 ((n : Int) + 2))).run Tryd.prog W = .ok (.slice (some ⟨W.heap.size, 0, none⟩) n (n + 2)) (W.alloc (.cells (List.replicate (n + 2) (Value.string ⟨#[]⟩)).toArray 9))) := fun n hn W => by
    have := run_make (P := Tryd.prog) W 28 9 i0 (.string ⟨#[]⟩) Tryd.underlying28 hi0 hz0 .i64 .i64 (n : Int) ((n : Int) + 2) (by omega) (by omega) (by rw [hz2]; omega) (by omega)
    rw [this, hz1, show ((n : Int) + 2).toNat = n + 2 by omega, made_strs, Int.toNat_natCast]
  have HV := hid hv
  have HF := hid hf
  have HP := hid hp
  have HTOT := hid htot
  obtain ⟨pv, cv, rfl, hdv, htv⟩ := HV.out
  have HDV := hid hdv
  have HTV := hid htv
  clear hj0 hi0 hk0 hv hf hp htot hdv htv
  go_enter Tryd.func4, Tryd.ntmps4
  go_wp2_with (first
    | (go_at_call 6; refine (fixed_any _ HP.out).mono ?_; rintro e w1 ⟨rfl, q1⟩))
  have IN0 : Hid (Ins w [] (.slice none 0 0) (.slice none 0 0) w1) := ⟨World.ownsRow_nil _ _ _ _, World.ownsRow_nil _ _ _ _, fun x hx => by simp at hx, q1⟩
  clear q1
  go_loopg [3, 4, 23] d.length (fun g vi vr vk ws => ∃ (i : Nat) (e : List Fx), vk = .int .i64 i ∧ i ≤ d.length ∧ d.length - i ≤ g ∧ Hid (e.length = i) ∧ Hid (e.map Fx.fld = (d.map Fx.fld).take i) ∧ Hid (Ins w e vi vr ws))
  case atStart => exact ⟨0, [], rfl, by omega, by omega, rfl, (show Hid _ from by simp [Hid]), IN0⟩
  case round =>
  clear IN0
  obtain ⟨i, e, rfl, hi, hgk, HEL, HEM, HIN⟩ := hrel
  by_cases hlt : i < d.length
  · have hltz : (i : Int) < (d.length : Int) := by omega
    have hiz : (0 : Int) ≤ (i : Int) := by omega
    obtain ⟨b, off, rfl, hxs⟩ : ∃ b off, pv = some ⟨b, off, none⟩ ∧ XsAt w b off d := by
      rcases HDV.out with h | h
      · subst h; simp at hlt
      · exact h
    obtain ⟨c0, c1⟩ := hxs.kept HIN.out.bel i hlt
    unfold Fx.sl at c1
    have hxt := HTV.out _ (List.getElem_mem hlt)
    have hem : (d.map Fx.fld).take (i + 1) = (d.map Fx.fld).take i ++ [(d[i]).fld] := by
      rw [List.take_succ_eq_append_getElem (by simpa using hlt)]; simp
    have hxl : (d[i]).txt.length ≤ 2000000 := by
      have h1 := totF_mem (List.mem_map.2 ⟨_, List.getElem_mem hlt, rfl⟩ : (d[i]).fld ∈ d.map Fx.fld)
      have h2 := HTOT.out
      have e : (d[i]).fld.2.length = (d[i]).txt.length := rfl
      omega
    obtain ⟨x, hx⟩ : ∃ x, d[i] = x := ⟨_, rfl⟩
    rw [hx] at c0 c1 hxt hem hxl
    obtain ⟨nm, xp, xc, xt⟩ := x
    simp only at c0 c1 hxl
    have hxt2 : TxtAt w xp xt := hxt
    have HXT := hid hxt2
    have HM1 := hid hem
    have hmk := HMK.out xt.length hxl
    obtain ⟨L0, hL0⟩ : ∃ L0, List.replicate (xt.length + 2) (Value.string ⟨#[]⟩) = L0 := ⟨_, rfl⟩
    rw [hL0] at hmk
    obtain ⟨T1, hT1⟩ : ∃ T1, xt.map Value.string = T1 := ⟨_, rfl⟩
    have HL0 := hid hL0
    have HT1 := hid hT1
    have hT1l : T1.length = xt.length := by rw [← hT1]; simp
    have HTL := hid hT1l
    have hL0l : L0.length = xt.length + 2 := by rw [← hL0]; simp
    have HLL := hid hL0l
    have HT1O : Hid (∀ u ∈ T1, u.oneCell' = true) := by show ∀ u ∈ T1, _; rw [← hT1]; exact txts_one _
    obtain ⟨S, hS⟩ : ∃ S, wr.heap.size = S := ⟨_, rfl⟩
    have HS := hid hS
    have hwS := HIN.out.bel.size
    rw [hS] at hwS
    have HSRC : Hid (∀ W, Below w.heap.size w W → 0 < T1.length → ∃ ad, xp = some ad ∧ ∀ j u, T1[j]? = some u → W.cell? (ad.add j) = some u) := fun W hW hpos => by
      rcases src_ts (HXT.out.kept hW) with h | h
      · omega
      · rw [← hT1]; exact h
    clear hxs hxt hxt2 hx hem hL0 hT1 hT1l hL0l
    obtain ⟨W2, hW2⟩ : ∃ W2, (wr.alloc (.cells #[.string nm, .slice xp xt.length xc] 30)).alloc (.cells L0.toArray 9) = W2 := ⟨_, rfl⟩
    have hbw2 : Below wr.heap.size wr W2 := by rw [← hW2]; exact ((Below.refl _ _).alloc (Nat.le_refl _) _).alloc (by simp) _
    obtain ⟨w3, hcp, h3, hg3⟩ := copy_room W2 (S + 1) xt.length xc xp L0 T1 HTL.out HLL.out (by rw [← hW2, ← hS]; have := heap_alloc_new (wr.alloc (.cells #[.string nm, .slice xp xt.length xc] 30)) (.cells L0.toArray 9); rw [World.size_alloc] at this; exact this) (HSRC.out W2 (bel_then HIN.out.bel HIN.out.bel.size hbw2)) HT1O.out
    rw [← HL0.out, ← HT1.out] at h3
    have hbox2 : W2.heap[S]? = some (.cells #[.string nm, .slice xp xt.length xc] 30 (0, 0)) := by
      rw [← hW2, ← hS]
      exact (Below.heap_alloc _ _ _ (by simp)).trans (heap_alloc_new wr _)
    obtain ⟨k20, k21, _, _⟩ := box_facts hbox2
    have hw2S : W2.heap.size = S + 2 := by rw [← hW2]; simp [hS]
    have hbox3 : w3.heap[S]? = some (.cells #[.string nm, .slice xp xt.length xc] 30 (0, 0)) := (hg3.block S (by omega) (by simp)).trans hbox2
    have cm : w3.cell? ⟨S + 1, xt.length, none⟩ = some (.string ⟨#[]⟩) := by
      rw [cell_of_row w3 (S + 1) _ _ _ _ h3, ← splice_at xt]
      simp
    have fm : w3.frozen? ⟨S + 1, xt.length, none⟩ = false := Lib.frozen_of_heap h3 _
    have hbw3 : Below wr.heap.size wr w3 := hbw2.grown hg3 (by omega) (fun k hk => by cases hk; omega)
    have hsz3 := hg3.size
    have H3 := hid h3
    have HBX3 := hid hbox3
    have HBW3 := hid hbw3
    have n1 : (0 : Int) ≤ (xt.length : Int) + 2 := by omega
    have n2 : (xt.length : Int) < (xt.length : Int) + 2 := by omega
    clear h3 hbox3 hbox2 hbw3 hg3 hbw2 hw2S
    go_upto_region 11 with fail
    clear k20 k21 cm fm hcp hmk c0 c1
    obtain ⟨W4, hW4⟩ : ∃ W4, w3.setCell ⟨S + 1, xt.length, none⟩ (.string ⟨#[109, 97, 114, 107]⟩) = W4 := ⟨_, rfl⟩
    rw [hW4]
    have hsz4 : w3.heap.size ≤ W4.heap.size := by rw [← hW4]; simp [World.setCell]
    have hw2s : S + 2 ≤ W2.heap.size := by rw [← hW2]; simp; omega
    have hb4 : Below wr.heap.size wr W4 := by rw [← hW4]; exact HBW3.out.setCell (p := ⟨S + 1, xt.length, none⟩) (by show _ ≤ S + 1; omega) _
    have hr4 : RoomAt w.heap.size W4 ⟨nm, some ⟨S + 1, 0, none⟩, xt.length + 2, xt⟩ := by rw [← hW4]; exact room_new (by omega) H3.out
    have hbx4 : W4.heap[S]? = some (.cells #[.string nm, .slice xp xt.length xc] 30 (0, 0)) := by
      rw [← hW4]
      exact (Below.heap_setCell w3 _ _ S (by show S ≠ S + 1; omega)).trans HBX3.out
    obtain ⟨W5, hW5⟩ : ∃ W5, W4.alloc (.cells #[.slice (some ⟨S + 1, 0, none⟩) xt.length (xt.length + 2)] 28) = W5 := ⟨_, rfl⟩
    have hb45 : Below W4.heap.size W4 W5 := by rw [← hW5]; exact (Below.refl _ _).alloc (Nat.le_refl _) _
    have HIN5 := hid ((HIN.out.on hb4).on hb45)
    have HR5 := hid (hr4.on hb45)
    have HBX5 : Hid (W5.heap[S]? = some (.cells #[.string nm, .slice xp xt.length xc] 30 (0, 0))) := (hb45.block S (by omega)).trans hbx4
    have HN5 : Hid (∀ m x, ([.slice (some ⟨S + 1, 0, none⟩) xt.length (xt.length + 2)] : List Value)[m]? = some x → W5.cell? ((⟨W4.heap.size, 0, none⟩ : Addr).add m) = some x) := by
      rw [← hW5]; exact new_one W4 _
    have hs45 := hb45.size
    have hs4 := hb4.size
    have hw5 : w.heap.size ≤ W5.heap.size := by omega
    have hel : e.length ≤ 2000000 := by have := HEL.out; omega
    clear hW4 hb4 hr4 hbx4 hb45 hW2 H3 HBX3 HBW3
    go_wp2_with (first | (at_builtin; refine wpList_append_own _ rfl _ _ 33 rfl w.heap.size 28 k0 (.slice none 0 0) 1 24 Tryd.underlying33 HK.out hx0 hx1 hx2 rfl (by decide) _ _ _ rfl HIN5.out.rooms ⟨W4.heap.size, 0, none⟩ 1 1 [.slice (some ⟨S + 1, 0, none⟩) xt.length (xt.length + 2)] rfl rfl HN5.out (sl_one _ _ _) (by unfold maxLen; omega) (by omega) hw5 ?_))
    intro v6 w6 hown6 hg6 _
    have HRW6 := hid (own_else HIN5.out.row HIN5.out.rooms (by decide) hg6)
    have HEA6 : Hid (∀ x ∈ e, RoomAt w.heap.size w6 x) := fun x hx => (HIN5.out.each x hx).else HIN5.out.rooms (by decide) hg6
    have HR6 := hid (HR5.out.else HIN5.out.rooms (by decide) hg6)
    have hbx6 : w6.heap[S]? = some (.cells #[.string nm, .slice xp xt.length xc] 30 (0, 0)) := by
      refine (hg6.block S (Array.getElem?_eq_some_iff.1 HBX5.out).1 fun e2 => ?_).trans HBX5.out
      obtain ⟨cs', h5⟩ := own_type HIN5.out.rooms e2.symm
      rw [HBX5.out] at h5
      injection h5 with h5
      injection h5 with _ h5
      exact absurd h5 (by decide)
    obtain ⟨k60, k61, _, _⟩ := box_facts hbx6
    have HB6 : Hid (Below w.heap.size w w6) := HIN5.out.bel.grown hg6 hw5 (fun k hk => (World.ownsRow.lt HIN5.out.rooms k hk).1)
    have HO6 := hid hown6
    have hs6 := hg6.size
    clear hown6 hg6 hbx6
    obtain ⟨W7, hW7⟩ : ∃ W7, w6.alloc (.cells #[.string nm, .slice (some ⟨S + 1, 0, none⟩) xt.length (xt.length + 2)] 30) = W7 := ⟨_, rfl⟩
    have hb67 : Below w6.heap.size w6 W7 := by rw [← hW7]; exact (Below.refl _ _).alloc (Nat.le_refl _) _
    have HRW7 := hid (own_on HRW6.out hb67)
    have HO7 := hid (own_on HO6.out hb67)
    have HEA7 : Hid (∀ x ∈ e, RoomAt w.heap.size W7 x) := fun x hx => (HEA6.out x hx).on hb67
    have HR7 := hid (HR6.out.on hb67)
    have HC7 := hid (news_x w6 ⟨nm, some ⟨S + 1, 0, none⟩, xt.length + 2, xt⟩)
    simp only at HC7
    rw [hW7] at HC7
    have HB7 : Hid (Below w.heap.size w W7) := bel_then HB6.out HB6.out.size hb67
    have hw7 := HB7.out.size
    clear hb67
    go_wp2_with (first | (at_builtin; refine wpList_append_own _ rfl _ _ 22 rfl w.heap.size 30 j0 (.agg #[.string ⟨#[]⟩, .slice none 0 0]) 2 40 Tryd.underlying22 HJ.out hy0 hy1 hy2 rfl (by decide) _ _ _ rfl HRW7.out ⟨w6.heap.size, 0, none⟩ 1 1 (cellsX [⟨nm, some ⟨S + 1, 0, none⟩, xt.length + 2, xt⟩]) rfl rfl HC7.out (cellsX_one _) (by unfold maxLen; omega) (by omega) hw7 ?_))
    intro v8 w8 hown8 hg8 _
    have HIN8 : Hid (Ins w (e ++ [⟨nm, some ⟨S + 1, 0, none⟩, xt.length + 2, xt⟩]) v8 v6 w8) := by
      refine ⟨?_, ?_, fun x hx => ?_, HB7.out.grown hg8 hw7 (fun k hk => (World.ownsRow.lt HRW7.out k hk).1)⟩
      · unfold RowX; rw [cellsX_append, List.length_append]; exact hown8
      · rw [List.length_append, List.map_append]
        exact own_else HO7.out HRW7.out (by decide) hg8
      · rw [List.mem_append, List.mem_singleton] at hx
        rcases hx with hx | rfl
        · exact (HEA7.out x hx).else HRW7.out (by decide) hg8
        · exact HR7.out.else HRW7.out (by decide) hg8
    have HEL8 : Hid ((e ++ [(⟨nm, some ⟨S + 1, 0, none⟩, xt.length + 2, xt⟩ : Fx)]).length = i + 1) := by show _ = _; rw [List.length_append, HEL.out]; rfl
    have HEM8 : Hid ((e ++ [(⟨nm, some ⟨S + 1, 0, none⟩, xt.length + 2, xt⟩ : Fx)]).map Fx.fld = (d.map Fx.fld).take (i + 1)) := by show _ = _; rw [List.map_append, HEM.out, HM1.out]; rfl
    clear hown8 hg8 k60 k61
    go_wp2_with fail
    go_roundg (d.length - (i + 1))
    case measure => omega
    case rel => exact ⟨i + 1, _, by go_num, by omega, by omega, HEL8, HEM8, HIN8⟩
  have hltz : ¬ (i : Int) < (d.length : Int) := by omega
  have hfe : e.map Fx.fld = d.map Fx.fld := by
    have h1 := HEM.out
    rwa [List.take_of_length_le (by rw [List.length_map]; omega)] at h1
  have HFE := hid hfe
  clear hfe HEM
  obtain ⟨wa, hwa⟩ : ∃ wa, wr = wa := ⟨_, rfl⟩
  subst hwa
  obtain ⟨pi, ci, hvi, hdi, hti⟩ := HIN.out.is
  subst hvi
  obtain ⟨pr, cr, hvr⟩ : ∃ p c, u4 = .slice p e.length c := by
    rcases HIN.out.rooms.2 with ⟨hv, h0⟩ | ⟨g, c, cur, hv, _⟩
    · exact ⟨none, 0, by rw [hv, h0]⟩
    · exact ⟨_, c, hv⟩
  subst hvr
  have hel : e.length ≤ 2000000 := by have := HEL.out; omega
  have hte : totF (e.map Fx.fld) ≤ 2000000 := by rw [HFE.out]; exact HTOT.out
  have hfx : FitX e := ⟨by unfold maxLen; omega, fun x hx => by
    have : x.fld ∈ d.map Fx.fld := by rw [← HFE.out]; exact List.mem_map.2 ⟨x, hx, rfl⟩
    obtain ⟨y, hy, ey⟩ := List.mem_map.1 this
    rw [← ey]; exact HF.out.2 y hy⟩
  have HFX := hid hfx
  have HNA := hid (norm_apart _ e wr HIN.out.is hfx (by omega) (by omega))
  have HNB : Hid (∀ W, Below wr.heap.size wr W → Calls Tryd.prog 7 #[.slice pi e.length ci] W fun q w' => NPost W (e.map Fx.fld) q w') := fun W hW => norm_plain _ e W (HIN.out.on hW).is HFX.out (by omega) (by omega)
  rw [HFE.out] at HNA HNB
  have HNR : Hid (∀ W, Below w.heap.size w W → Calls Tryd.prog 13 #[.slice pv d.length cv] W fun q w' => NPost W (d.map Fx.fld) q w') := fun W hW => rnorm_plain _ d W (HV.out.kept hW) HF.out (by omega) (by have := HTOT.out; omega)
  obtain ⟨fs, hfs⟩ : ∃ fs, d.map Fx.fld = fs := ⟨_, rfl⟩
  rw [hfs] at HNA HNB HNR HFE
  have HFS := hid hfs
  clear hfs hfx hdi hti hte
  go_wp2_with fail
  refine HNA.out.mono ?_
  rintro q wb ⟨⟨ux, ox, rfl, o1, m1⟩, q1⟩
  obtain ⟨px, cx, hux⟩ := own_len o1.1
  subst hux
  have O1 := hid o1
  have M1 := hid m1
  have Q1 := hid q1
  clear o1 m1 q1 HNA
  go_wp2_with fail
  refine (HNB.out wb Q1.out).mono ?_
  rintro q wc ⟨⟨uy, oy, rfl, o2, m2⟩, q2⟩
  have O2 := hid o2
  have M2 := hid m2
  have Q2 := hid q2
  have BC := hid (bel_then Q1.out Q1.out.size q2)
  clear o2 m2 q2 HNB
  go_wp2_with fail
  refine (HNR.out wc (bel_then HIN.out.bel HIN.out.bel.size BC.out)).mono ?_
  rintro q wd ⟨⟨uw, ow, rfl, o3, m3⟩, q3⟩
  have O3 := hid o3
  have M3 := hid m3
  have Q3 := hid q3
  have BD := hid (bel_then BC.out BC.out.size q3)
  have HSM := hid (same_any (.slice px ox.length cx) uw ox ow (codeF fs) wd (O1.out.1.on (bel_then Q2.out Q2.out.size q3)).is o3.is (ans_fit M1.out) (ans_fit m3))
  rw [show decide (ox.map Fx.fld = ow.map Fx.fld) = true from decide_eq_true (M1.out.trans m3.symm)] at HSM
  clear o3 m3 q3 HNR
  go_wp2_with (first
    | (go_at_call 14; refine HSM.out.mono ?_; rintro q w9 ⟨rfl, n1, rfl⟩; have HSF := hid (sameF_any _ _ e d (wd.drewN n1) ((HIN.out.on (bel_drewN BD.out n1)).is) (HV.out.kept (bel_then HIN.out.bel HIN.out.bel.size (bel_drewN BD.out n1))) HFX.out HF.out); rw [show decide (e.map Fx.fld = d.map Fx.fld) = true from decide_eq_true (HFE.out.trans HFS.out.symm)] at HSF)
    | (go_at_call 11; refine HSF.out.mono ?_; rintro q w10 ⟨rfl, n2, rfl⟩))
  obtain ⟨A, hA⟩ : ∃ A, wr.heap.size = A := ⟨_, rfl⟩
  obtain ⟨B, hB⟩ : ∃ B, wb.heap.size = B := ⟨_, rfl⟩
  obtain ⟨we, hwe⟩ : ∃ we, wd.drewN (n1 + n2) = we := ⟨_, rfl⟩
  rw [hwe]
  have hcb : Below wb.heap.size wb we := by rw [← hwe]; exact bel_drewN (bel_then Q2.out Q2.out.size Q3.out) _
  have hae : Below A wr we := by rw [← hA, ← hwe]; exact bel_drewN BD.out _
  have hyw : OwnXs B we uy oy := by rw [← hB, ← hwe]; exact O2.out.on (bel_drewN Q3.out _)
  have hww : OwnXs B we uw ow := by
    rw [← hB, ← hwe]
    have := O3.out.on (bel_drewN (Below.refl _ _) (n1 + n2))
    exact ⟨own_weak this.1 Q2.out.size, fun x hx => own_weak (this.2 x hx) Q2.out.size⟩
  have hx0 : XSt A B we.heap.size we (.slice px ox.length cx) ox we := by
    refine ⟨by rw [← hA]; exact O1.out.on hcb, fun k hk => Or.inl ?_, fun x hx k hk => Or.inl ?_, ⟨rfl, rfl, rfl, Nat.le_refl _, fun _ _ _ => rfl⟩⟩
    · rw [← hB]; exact (World.ownsRow.lt O1.out.1.1 k hk).2
    · rw [← hB]; exact (World.ownsRow.lt (O1.out.1.2 x hx) k hk).2
  have HAB : Hid (w.heap.size ≤ A ∧ A ≤ B ∧ B ≤ we.heap.size) := ⟨by rw [← hA]; exact HIN.out.bel.size, by rw [← hA, ← hB]; exact Q1.out.size, by rw [← hB]; exact hcb.size⟩
  have HAE := hid hae
  have HYW := hid hyw
  have HWW := hid hww
  have HX0 := hid hx0
  have HON : Hid (∀ W, Below A wr W → Ins w e (.slice pi e.length ci) (.slice pr e.length cr) W) := fun W h => HIN.out.on (by rw [hA]; exact h)
  have hox : ∀ k, (h : k < ox.length) → (ox[k]).txt.length ≤ 8 := fun k h => by
    have : (ox[k]).fld ∈ ansF fs := by rw [← M1.out]; exact List.mem_map.2 ⟨_, List.getElem_mem h, rfl⟩
    exact ans_small _ this
  have HOX := hid hox
  have hnx : ox.length ≤ 2000000 := by
    have h1 := (ans_fit M1.out).1
    have h2 := congrArg List.length M1.out
    rw [List.length_map] at h2
    unfold ansF at h2
    split at h2
    · rename_i hc
      have := (may_parts (codeF_zero hc).2.2).1
      omega
    · rw [List.length_nil] at h2; omega
  clear hcb hae hyw hww hx0 hA hB hwe HSM HSF O1 Q1 Q2 Q3 BC BD hox
  go_loopg [88] ox.length (fun g vi ws => ∃ (i : Nat) (o : List Fx), vi = .int .i64 i ∧ i ≤ ox.length ∧ ox.length - i ≤ g ∧ Hid (o.length = ox.length) ∧ Hid (∀ k, i ≤ k → o[k]? = ox[k]?) ∧ Hid (XSt A B we.heap.size we (.slice px ox.length cx) o ws))
  case atStart => exact ⟨0, ox, rfl, by omega, by omega, rfl, fun _ _ => rfl, HX0⟩
  case round =>
  clear HX0
  obtain ⟨a, o, rfl, hai, hga, HOL, HOK, HXS⟩ := hrel
  by_cases halt : a < ox.length
  · have haz : (a : Int) < (ox.length : Int) := by omega
    have ha0 : (0 : Int) ≤ (a : Int) := by omega
    have hao : a < o.length := by rw [HOL.out]; exact halt
    obtain ⟨gx, cx', hsx⟩ := HXS.out.shape (by omega)
    rw [HOL.out] at hsx
    injection hsx with hs1 hs2 hs3
    subst hs1
    clear hs2 hs3
    obtain ⟨c0, c1, f0, f1⟩ := HXS.out.cells HOL.out hao
    have hy8 : (o[a]).txt.length ≤ 8 := by
      have h1 := HOK.out a (Nat.le_refl _)
      rw [List.getElem?_eq_getElem hao, List.getElem?_eq_getElem halt] at h1
      rw [Option.some.inj h1]
      exact HOX.out a halt
    have HO1 : Hid (∃ h : a < o.length, (o[a]).txt.length = (o[a]).txt.length) := ⟨hao, rfl⟩
    have HOK1 : Hid (∀ k, a < k → o[k]? = ox[k]?) := fun k hk => HOK.out k (by omega)
    obtain ⟨m, hm⟩ : ∃ m, (o[a]).txt.length = m := ⟨_, rfl⟩
    have HOM : Hid (∃ h : a < o.length, (o[a]).txt.length = m) := ⟨hao, hm⟩
    unfold Fx.sl at c1
    rw [hm] at c1 hy8
    clear HO1 HOK hm
    generalize (o[a]).name = nm0 at c0
    generalize (o[a]).p = p0 at c1
    generalize (o[a]).cap = cc0 at c1
    go_wp2_with fail
    clear c0 c1 f0 f1
    go_loopg [97] m (fun g vj ws => ∃ (j : Nat) (o : List Fx), vj = .int .i64 j ∧ j ≤ m ∧ m - j ≤ g ∧ Hid (o.length = ox.length) ∧ Hid (∃ h : a < o.length, (o[a]).txt.length = m) ∧ Hid (∀ k, a < k → o[k]? = ox[k]?) ∧ Hid (XSt A B we.heap.size we (.slice (some ⟨gx, 0, none⟩) ox.length cx) o ws))
    case atStart => exact ⟨0, o, rfl, by omega, by omega, HOL, HOM, HOK1, HXS⟩
    case round =>
    clear hao HOL HOM HOK1 HXS
    obtain ⟨j, o2, rfl, hj, hgj, HOL, HOM, HOK, HXS⟩ := hrel
    obtain ⟨hao, hm⟩ := HOM.out
    obtain ⟨c0, c1, f0, f1⟩ := HXS.out.cells HOL.out hao
    by_cases hjl : j < m
    · have hjz : (j : Int) < (m : Int) := by omega
      have hj0 : (0 : Int) ≤ (j : Int) := by omega
      have hot := HXS.out.own.1.2 _ (List.getElem_mem hao)
      obtain ⟨gt, hpt⟩ : ∃ gt, (o2[a]).p = some ⟨gt, 0, none⟩ := by
        rcases hot.2 with ⟨_, h0⟩ | ⟨g, c, cur, hv, _⟩
        · omega
        · unfold Fx.sl at hv
          injection hv with h1 _ _
          exact ⟨g, h1⟩
      have hrow : wr.ownsRow A 9 1 (.slice (some ⟨gt, 0, none⟩) (o2[a]).txt.length (o2[a]).cap) (o2[a]).txt.length ((o2[a]).txt.map Value.string) := by
        have := hot
        unfold OwnT Fx.sl at this
        rw [hpt] at this
        exact this
      have d0 : wr.cell? ⟨gt, j, none⟩ = some (.string ((o2[a]).txt[j]'(by omega))) := by
        rw [hrow.cellAt _ (by omega)]
        simp [show j < (o2[a]).txt.length by omega]
      have d1 : wr.frozen? ⟨gt, j, none⟩ = false := hrow.frozenAt _
      have HW := hid (HXS.out.wipe hao (j := j) hpt ⟨#[119, 105, 112, 101, 100]⟩)
      have HOL2 : Hid ((o2.set a ⟨(o2[a]).name, (o2[a]).p, (o2[a]).cap, (o2[a]).txt.set j ⟨#[119, 105, 112, 101, 100]⟩⟩).length = ox.length) := by show _ = _; rw [List.length_set]; exact HOL.out
      have HOM2 : Hid (∃ h : a < (o2.set a ⟨(o2[a]).name, (o2[a]).p, (o2[a]).cap, (o2[a]).txt.set j ⟨#[119, 105, 112, 101, 100]⟩⟩).length, ((o2.set a ⟨(o2[a]).name, (o2[a]).p, (o2[a]).cap, (o2[a]).txt.set j ⟨#[119, 105, 112, 101, 100]⟩⟩)[a]).txt.length = m) := ⟨by rw [List.length_set]; exact hao, by rw [List.getElem_set_self]; simp only [List.length_set]; exact hm⟩
      have HOK2 : Hid (∀ k, a < k → (o2.set a ⟨(o2[a]).name, (o2[a]).p, (o2[a]).cap, (o2[a]).txt.set j ⟨#[119, 105, 112, 101, 100]⟩⟩)[k]? = ox[k]?) := fun k hk => by rw [List.getElem?_set_ne (by omega)]; exact HOK.out k hk
      unfold Fx.sl at c1
      rw [hm, hpt] at c1
      generalize (o2[a]).name = nm1 at c0
      generalize (o2[a]).cap = cc1 at c1
      generalize ((o2[a]).txt[j]'(by omega)) = tj at d0
      clear hot hrow hpt hm
      go_wp2_with fail
      go_roundg (m - (j + 1))
      case measure => omega
      case rel => exact ⟨j + 1, _, by go_num, by omega, by omega, HOL2, HOM2, HOK2, HW⟩
    · have hjz : ¬ (j : Int) < (m : Int) := by omega
      clear c0 c1 f0 f1
      have HOM0 : Hid (∃ h : a < o2.length, (o2[a]).txt.length = m + 0) := ⟨hao, hm⟩
      clear hm hao HOM
      go_wp2_with fail
      go_loopg [108] 9 (fun g vj ws => ∃ (q : Nat) (o : List Fx), vj = .int .i64 q ∧ q ≤ 9 ∧ 9 - q ≤ g ∧ Hid (o.length = ox.length) ∧ Hid (∃ h : a < o.length, (o[a]).txt.length = m + q) ∧ Hid (∀ k, a < k → o[k]? = ox[k]?) ∧ Hid (XSt A B we.heap.size we (.slice (some ⟨gx, 0, none⟩) ox.length cx) o ws))
      case atStart => exact ⟨0, o2, rfl, by omega, by omega, HOL, HOM0, HOK, HXS⟩
      case round =>
      clear HOL HOM0 HOK HXS
      obtain ⟨q, o3, rfl, hq, hgq, HOL, HOM, HOK, HXS⟩ := hrel
      obtain ⟨hao, hm⟩ := HOM.out
      obtain ⟨c0, c1, f0, f1⟩ := HXS.out.cells HOL.out hao
      by_cases hq9 : q < 9
      · have hqz : (q : Int) < 9 := by omega
        have hot := HXS.out.own.1.2 _ (List.getElem_mem hao)
        obtain ⟨T3, hT3⟩ : ∃ T3, (o3[a]).txt.map Value.string = T3 := ⟨_, rfl⟩
        have hrow : wr.ownsRow A 9 1 (.slice (o3[a]).p (m + q) (o3[a]).cap) (m + q) T3 := by
          have := hot
          unfold OwnT Fx.sl at this
          rw [hT3, hm] at this
          exact this
        have hsl : (o3[a]).sl = .slice (o3[a]).p (m + q) (o3[a]).cap := by unfold Fx.sl; rw [hm]
        have HROW := hid (World.ownsRow.alloc hrow (.cells #[.string ⟨#[109, 111, 114, 101]⟩] 9))
        have HX1 := hid (HXS.out.alloc (.cells #[.string ⟨#[109, 111, 114, 101]⟩] 9))
        have hAw : A ≤ wr.heap.size := by
          have := HXS.out.kept.size
          have h3 := HAB.out
          omega
        have HT3 := hid hT3
        have HSL := hid hsl
        have HM := hid hm
        have KG : Hid (∀ g4 c4 w4, w4.ownsRow A 9 1 (.slice (some ⟨g4, 0, none⟩) (m + q + 1) c4) (m + q + 1) (T3 ++ [.string ⟨#[109, 111, 114, 101]⟩]) → (wr.alloc (.cells #[.string ⟨#[109, 111, 114, 101]⟩] 9)).grownBy w4 (Value.slice (o3[a]).p (m + q) (o3[a]).cap).ownBlock →
            ((Value.slice (some ⟨g4, 0, none⟩) (m + q + 1) c4).ownBlock = (Value.slice (o3[a]).p (m + q) (o3[a]).cap).ownBlock ∨ (Value.slice (some ⟨g4, 0, none⟩) (m + q + 1) c4).ownBlock = some (wr.alloc (.cells #[.string ⟨#[109, 111, 114, 101]⟩] 9)).heap.size) →
            w4.cell? ⟨gx, a * 2 + 1, none⟩ = some (.slice (o3[a]).p (m + q) (o3[a]).cap) ∧ w4.frozen? ⟨gx, a * 2 + 1, none⟩ = false ∧ Hid (XSt A B we.heap.size we (.slice (some ⟨gx, 0, none⟩) ox.length cx) (o3.set a ⟨(o3[a]).name, some ⟨g4, 0, none⟩, c4, (o3[a]).txt ++ [⟨#[109, 111, 114, 101]⟩]⟩) (w4.setCell ⟨gx, a * 2 + 1, none⟩ (.slice (some ⟨g4, 0, none⟩) (m + q + 1) c4)))) := fun g4 c4 w4 h1 h2 h3 => by
          rw [← HSL.out] at h2 h3 ⊢
          exact HX1.out.grow HOL.out hao (ts := (o3[a]).txt ++ [⟨#[109, 111, 114, 101]⟩]) (by rw [List.length_append, HM.out]; rfl) (by rw [List.map_append, HT3.out]; exact h1) h2 h3
        have HOL2 : Hid (∀ y : Fx, (o3.set a y).length = ox.length) := fun y => by rw [List.length_set]; exact HOL.out
        have HOM2 : Hid (∀ y : Fx, y.txt.length = m + (q + 1) → ∃ h : a < (o3.set a y).length, ((o3.set a y)[a]).txt.length = m + (q + 1)) := fun y hy => ⟨by rw [List.length_set]; exact hao, by rw [List.getElem_set_self]; exact hy⟩
        have HTLN : Hid (((o3[a]).txt ++ [(⟨#[109, 111, 114, 101]⟩ : ByteArray)]).length = m + (q + 1)) := by show _ = _; rw [List.length_append, HM.out]; rfl
        have HOK2 : Hid (∀ y : Fx, ∀ k, a < k → (o3.set a y)[k]? = ox[k]?) := fun y k hk => by rw [List.getElem?_set_ne (by omega)]; exact HOK.out k hk
        rw [hsl] at c1
        clear hot hrow hT3 hsl hm c0 f0
        generalize (o3[a]).p = p3 at c1 HROW KG
        generalize (o3[a]).cap = cc3 at c1 HROW KG
        go_wp2_with (first | (at_builtin; refine wpList_append_own_at _ rfl _ _ 28 rfl A 9 i0 (.string ⟨#[]⟩) 1 16 Tryd.underlying28 HI.out hz0 hz1 hz2 rfl (by decide) _ _ _ rfl HROW.out ⟨wr.heap.size, 0, none⟩ 1 1 [.string ⟨#[109, 111, 114, 101]⟩] rfl rfl (new_one _ _) (txt_one1 _) (by unfold maxLen; omega) (by omega) (by simp; omega) ?_))
        intro v4 w4 hown4 hg4 _ hat4
        obtain ⟨g4, c4, rfl⟩ := ownsRow_succ hown4
        obtain ⟨d1, d2, HX4⟩ := KG.out g4 c4 w4 hown4 hg4 (by rw [World.size_alloc]; exact hat4)
        clear hown4 hg4 hat4 c1 f1
        go_wp2_with fail
        go_roundg (9 - (q + 1))
        case measure => omega
        case rel => exact ⟨q + 1, _, by go_num, by omega, by omega, HOL2.out _, HOM2.out _ HTLN.out, HOK2.out _, HX4⟩
      · have hqz : ¬ (q : Int) < 9 := by omega
        have HRN := hid (HXS.out.rename HOL.out hao ⟨#[119, 105, 112, 101, 100]⟩)
        have HOL2 : Hid (∀ y : Fx, (o3.set a y).length = ox.length) := fun y => by rw [List.length_set]; exact HOL.out
        have HOK2 : Hid (∀ y : Fx, ∀ k, a + 1 ≤ k → (o3.set a y)[k]? = ox[k]?) := fun y k hk => by rw [List.getElem?_set_ne (by omega)]; exact HOK.out k (by omega)
        generalize (o3[a]).name = nm3 at c0
        clear c1 f1 hm
        go_wp2_with fail
        go_roundg (ox.length - (a + 1))
        case measure => omega
        case rel => exact ⟨a + 1, _, by go_num, by omega, by omega, HOL2.out _, HOK2.out _, HRN⟩
  · have haz : ¬ (a : Int) < (ox.length : Int) := by omega
    obtain ⟨hA1, hA2, hA3⟩ := HAB.out
    have hBA := HXS.out.kept.below (by omega) (Nat.le_refl _)
    have hAr : A ≤ wr.heap.size := by have := HXS.out.kept.size; omega
    have HAW := hid (HAE.out.trans hBA)
    have HINW := hid (HON.out wr HAW.out)
    have HYK : Hid (∀ W, Below wr.heap.size wr W → IsXs W uy oy ∧ IsXs W uw ow) := fun W hW => by
      have key : ∀ {u : Value} {o : List Fx}, OwnXs B we u o → IsXs W u o := fun {u o} h => by
        have h1 : OwnXs B wr u o := by
          refine ⟨own_same h.1 fun k hk => ?_, fun x hx => own_same (h.2 x hx) fun k hk => ?_⟩
          · have := World.ownsRow.lt h.1 k hk
            exact HXS.out.kept.block k this.2 (Or.inr this.1)
          · have := World.ownsRow.lt (h.2 x hx) k hk
            exact HXS.out.kept.block k this.2 (Or.inr this.1)
        exact (h1.on hW).is
      exact ⟨key HYW.out, key HWW.out⟩
    have HTE : Hid (∀ nm, (textsOf (e.map Fx.fld) nm).length ≤ 2000000) := fun nm => by
      have h1 := textsOf_len (e.map Fx.fld) nm
      rw [HFE.out] at h1 ⊢
      have h2 := HTOT.out
      rw [HFS.out] at h2
      omega
    have HT16 : Hid (∀ x ∈ e, x.txt.length * 16 ≤ 140737488355328) := fun x hx => by
      have h1 := totF_mem (List.mem_map.2 ⟨x, hx, rfl⟩ : x.fld ∈ e.map Fx.fld)
      rw [HFE.out] at h1
      have h2 := HTOT.out
      rw [HFS.out] at h2
      have e2 : x.fld.2.length = x.txt.length := rfl
      omega
    obtain ⟨Be, hBe⟩ : ∃ B, decide (0 < e.length) = B := ⟨_, rfl⟩
    have HBE := hid hBe
    have hBe2 : decide ((0 : Int) < (e.length : Int)) = Be := by rw [← hBe, decide_eq_decide]; omega
    clear hBA HOL HOK
    go_upto_if 129 with fail
    clear hBe hBe2
    go_cut [16] from 17 (fun _ wx => Hid (Below wr.heap.size wr wx))
    case first =>
      cases Be with
      | false =>
        have HR0 : Hid (Below wr.heap.size wr wr) := Below.refl _ _
        go_wp2_with fail
        go_meet
        case rel => exact HR0
      | true =>
        have he0 : 0 < e.length := of_decide_eq_true HBE.out
        have he0z : (0 : Int) < (e.length : Int) := by omega
        obtain ⟨p', c', he1, hdi, _⟩ := HINW.out.is
        injection he1 with he1 _ he2
        subst he1
        obtain ⟨bi, oi, rfl, hxi⟩ : ∃ b off, pi = some ⟨b, off, none⟩ ∧ XsAt wr b off e := by
          rcases hdi with h | h
          · rw [h] at he0; simp at he0
          · exact h
        have c0 := (hxi 0 he0).1
        rw [Nat.zero_mul, Nat.add_zero] at c0
        obtain ⟨nm, hnm⟩ : ∃ nm, (e[0]).name = nm := ⟨_, rfl⟩
        rw [hnm] at c0
        have HTT := hid (texts_any _ nm e wr HINW.out.is HFX.out HT16.out)
        have hTE := HTE.out nm
        obtain ⟨ts, hts⟩ : ∃ ts, textsOf (e.map Fx.fld) nm = ts := ⟨_, rfl⟩
        rw [hts] at HTT hTE
        clear hdi hxi hnm he2 hts
        go_wp2_with (first | (go_at_call 10; refine HTT.out.mono ?_; rintro q w2 ⟨⟨vt, rfl, ot⟩, qt⟩; obtain ⟨pt, ct, rfl⟩ := own_slice ot; have OT := hid ot; have QT := hid qt; clear ot qt))
        go_loopg [138] ts.length (fun g vj ws => ∃ (j : Nat) (us : List ByteArray), vj = .int .i64 j ∧ j ≤ ts.length ∧ ts.length - j ≤ g ∧ Hid (us.length = ts.length) ∧ Hid (OwnT wr.heap.size ws (.slice pt ts.length ct) us) ∧ Hid (Below wr.heap.size wr ws))
        case atStart => exact ⟨0, ts, rfl, by omega, by omega, rfl, OT, QT⟩
        case round =>
        clear OT QT
        obtain ⟨j, us, rfl, hj, hgj, HUL, HOU, HBU⟩ := hrel
        by_cases hjl : j < ts.length
        · have hjz : (j : Int) < (ts.length : Int) := by omega
          have hj0 : (0 : Int) ≤ (j : Int) := by omega
          have hul := HUL.out
          obtain ⟨gt, rfl⟩ : ∃ gt, pt = some ⟨gt, 0, none⟩ := by
            rcases HOU.out.2 with ⟨_, h0⟩ | ⟨g, c, cur, hv, _⟩
            · omega
            · injection hv with h1 _ _
              exact ⟨g, h1⟩
          have hrow := HOU.out
          unfold OwnT at hrow
          rw [← hul] at hrow
          have d0 : wr.cell? ⟨gt, j, none⟩ = some (.string (us[j]'(by omega))) := by
            rw [hrow.cellAt _ (by omega)]
            simp [show j < us.length by omega]
          have d1 : wr.frozen? ⟨gt, j, none⟩ = false := hrow.frozenAt _
          have HOU2 := hid (hrow.stored j (.string ⟨#[119, 105, 112, 101, 100]⟩)).1
          rw [← List.map_set] at HOU2
          have HUL2 : Hid ((us.set j ⟨#[119, 105, 112, 101, 100]⟩).length = ts.length) := by show _ = _; rw [List.length_set]; exact hul
          have HBU2 := hid (HBU.out.setCell (p := ⟨gt, j, none⟩) ((World.ownsRow.lt HOU.out gt rfl).1) (.string ⟨#[119, 105, 112, 101, 100]⟩))
          rw [hul] at HOU2
          generalize (us[j]'(by omega)) = tj at d0
          clear hrow
          have HOU3 := HOU2
          go_wp2_with fail
          go_roundg (ts.length - (j + 1))
          case measure => omega
          case rel =>
            refine ⟨j + 1, us.set j ⟨#[119, 105, 112, 101, 100]⟩, by go_num, by omega, by omega, HUL2, ?_, HBU2⟩
            show OwnT _ _ _ _
            unfold OwnT
            rw [HUL2.out]
            exact HOU3.out
        · have hjz : ¬ (j : Int) < (ts.length : Int) := by omega
          go_wp2_with fail
          go_meet
          case rel => exact HBU
    case rest =>
    have HBX := hcut
    clear hcut
    have HAC := hid (HAW.out.trans (HBX.out.mono hAr))
    have HINC := hid (HON.out wc HAC.out)
    have HYC := hid (HYK.out wc HBX.out)
    go_wp2_with fail
    go_loopg [147] e.length (fun g vj ws => ∃ j n : Nat, vj = .int .i64 j ∧ j ≤ e.length ∧ e.length - j ≤ g ∧ ws = wc.drewN n)
    case atStart => exact ⟨0, 0, rfl, by omega, by omega, rfl⟩
    case round =>
      obtain ⟨j, n, rfl, hj, hgj, rfl⟩ := hrel
      by_cases hjl : j < e.length
      · have hjz : (j : Int) < (e.length : Int) := by omega
        have hj0 : (0 : Int) ≤ (j : Int) := by omega
        obtain ⟨gj, hpj, hcj, hmj⟩ := (HINC.out.each _ (List.getElem_mem hjl)).mark
        obtain ⟨gr, rfl⟩ : ∃ g, pr = some ⟨g, 0, none⟩ := by
          rcases HINC.out.rooms.2 with ⟨_, h0⟩ | ⟨g, c, cur, hv, _⟩
          · omega
          · injection hv with h1 _ _
            exact ⟨g, h1⟩
        have r0 : wc.cell? ⟨gr, j, none⟩ = some (e[j]).sl := by
          have hrow := HINC.out.rooms
          rw [hrow.cellAt _ (by omega)]
          simp [hjl]
        unfold Fx.sl at r0
        rw [hpj, hcj] at r0
        obtain ⟨l, hl0⟩ : ∃ l, (e[j]).txt.length = l := ⟨_, rfl⟩
        rw [hl0] at r0 hmj
        have hll : l ≤ 2000000 := by
          have := HT16.out _ (List.getElem_mem hjl)
          have h1 := totF_mem (List.mem_map.2 ⟨_, List.getElem_mem hjl, rfl⟩ : (e[j]).fld ∈ e.map Fx.fld)
          rw [HFE.out] at h1
          have h2 := HTOT.out
          rw [HFS.out] at h2
          have e2 : (e[j]).fld.2.length = (e[j]).txt.length := rfl
          omega
        replace r0 : (wc.drewN n).cell? ⟨gr, j, none⟩ = some (.slice (some ⟨gj, 0, none⟩) l (l + 2)) := r0
        replace hmj : (wc.drewN n).cell? ⟨gj, l, none⟩ = some (.string ⟨#[109, 97, 114, 107]⟩) := hmj
        obtain ⟨Wn, hWn⟩ : ∃ Wn, wc.drewN n = Wn := ⟨_, rfl⟩
        rw [hWn] at r0 hmj ⊢
        have HWN := hid hWn
        have l1 : (0 : Int) ≤ (l : Int) := by omega
        have l2 : (0 : Int) ≤ (l : Int) + 2 := by omega
        have l3 : (l : Int) < (l : Int) + 2 := by omega
        clear hpj hcj hl0 hWn
        go_wp2_with fail
        go_quiet (fail)
        go_wp2_with fail
        go_roundg (e.length - (j + 1))
        case measure => omega
        exact ⟨j + 1, _, by go_num, by omega, by omega, by rw [← HWN.out, World.drewN_drewN]⟩
      · have hjz : ¬ (j : Int) < (e.length : Int) := by omega
        have HSF := hid (sameF_any _ _ e d (wc.drewN n) (HINC.out.on (bel_drewN (Below.refl _ _) n)).is (HV.out.kept (bel_drewN HINC.out.bel n)) HFX.out HF.out)
        rw [show decide (e.map Fx.fld = d.map Fx.fld) = true from decide_eq_true (HFE.out.trans HFS.out.symm)] at HSF
        go_wp2_with fail
        refine HSF.out.mono ?_
        rintro q w8 ⟨rfl, n8, rfl⟩
        have HSG := hid (sameF_any uy uw oy ow (wc.drewN (n + n8)) (HYC.out.1.kept (bel_drewN (Below.refl _ _) (n + n8))) (HYC.out.2.kept (bel_drewN (Below.refl _ _) (n + n8))) (ans_fit M2.out) (ans_fit M3.out))
        rw [show decide (oy.map Fx.fld = ow.map Fx.fld) = true from decide_eq_true (M2.out.trans M3.out.symm)] at HSG
        go_wp2_with fail
        refine HSG.out.mono ?_
        rintro q w9 ⟨rfl, n9, rfl⟩
        go_wp2_with fail
        go_ret
        exact ⟨rfl, bel_drewN HINC.out.bel (n + n8 + n9)⟩

end Go.Proofs.YtmjchokacmbkoabDoor
