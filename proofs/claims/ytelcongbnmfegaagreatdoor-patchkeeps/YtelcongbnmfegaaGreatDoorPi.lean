/-
  Texts of this claim, one behind the other: Hk0 Haw Hkw.
-/
import Derived.Test.YtelcongbnmfegaaGreatDoorPh
import Derived.Test.YtelcongbnmfegaaGreatDoorPg
import Derived.Laws.CopyOwn
import Derived.Maps.AppendAt
import Derived.Deep.CutRange
/-
  What PatchKeeps makes and writes: rows with spare room; a value that is written over.
-/
namespace Go.Proofs.YtelcongbnmfegaaGreatDoor
open Go.RowKit Go.Lib

def markP : ByteArray := ⟨#[109, 97, 114, 107]⟩

/-- The texts of x lie in a block of their own at or behind N, with two cells of spare room: the mark, and an empty text. -/
def RoomP (N : Nat) (W : World) (x : Fx) : Prop :=
  ∃ g, x.p = some ⟨g, 0, none⟩ ∧ x.cap = x.txt.length + 2 ∧ N ≤ g ∧ W.heap[g]? = some (.cells (x.txt.map Value.string ++ [Value.string markP, Value.string ⟨#[]⟩]).toArray 9 (0, 0))

theorem RoomP.on {N : Nat} {W W' : World} {x : Fx} (h : RoomP N W x) (hb : Below W.heap.size W W') : RoomP N W' x := by
  obtain ⟨g, h1, h2, h3, h4⟩ := h
  exact ⟨g, h1, h2, h3, (hb.block g (Array.getElem?_eq_some_iff.1 h4).1).trans h4⟩

theorem RoomP.else {N m0 : Nat} {W W' : World} {x : Fx} {e : TypeId} {size : Nat} {u : Value} {m : Nat} {ys : List Value} (h : RoomP N W x) (hu : W.ownsRow m0 e size u m ys) (hne : e ≠ 9) (hg : W.grownBy W' u.ownBlock) : RoomP N W' x := by
  obtain ⟨g, h1, h2, h3, h4⟩ := h
  refine ⟨g, h1, h2, h3, (hg.block g (Array.getElem?_eq_some_iff.1 h4).1 fun e2 => ?_).trans h4⟩
  obtain ⟨cs', h5⟩ := own_type hu e2.symm
  rw [h4] at h5
  injection h5 with h5
  injection h5 with _ h5
  exact hne h5.symm

theorem RoomP.at {N : Nat} {W : World} {x : Fx} (h : RoomP N W x) : x.at W := by
  obtain ⟨g, h1, _, _, h4⟩ := h
  refine Or.inr ⟨g, 0, h1, fun i hi => ?_⟩
  rw [Nat.zero_add, cell_of_row W g i _ _ _ h4]
  simp [List.getElem?_append, hi]

theorem RoomP.mark {N : Nat} {W : World} {x : Fx} (h : RoomP N W x) : ∃ g, x.p = some ⟨g, 0, none⟩ ∧ x.cap = x.txt.length + 2 ∧ W.cell? ⟨g, x.txt.length, none⟩ = some (.string markP) := by
  obtain ⟨g, h1, h2, _, h4⟩ := h
  refine ⟨g, h1, h2, ?_⟩
  rw [cell_of_row W g _ _ _ _ h4]
  simp

theorem room_cellsP (ts : List ByteArray) : ((splice (List.replicate (ts.length + 2) (Value.string ⟨#[]⟩)) 0 (ts.map Value.string)).toArray.setIfInBounds ts.length (.string markP)) = (ts.map Value.string ++ [Value.string markP, Value.string ⟨#[]⟩]).toArray := by
  apply Array.toList_inj.1
  rw [Array.toList_setIfInBounds]
  simp only [splice, List.take_zero, List.nil_append, List.length_map, Nat.zero_add, List.drop_replicate]
  rw [show ts.length + 2 - ts.length = 2 by omega, List.set_append_right _ _ (by simp)]
  simp

theorem made_strsP (n : Nat) : madeCells (Value.string ⟨#[]⟩).cells ((n + 2) * 1) = (List.replicate (n + 2) (Value.string ⟨#[]⟩)).toArray := by
  apply Array.toList_inj.1
  apply List.ext_getElem
  · simp [madeCells]
  · intro i h1 h2
    simp [madeCells, Value.cells]
    rw [Nat.mod_one]
    rfl

theorem strs_sizeP : (Tryz.prog.info? 9).map (·.size) = some 1 := by kernel_rfl

theorem splice_atP (ts : List ByteArray) : (splice (List.replicate (ts.length + 2) (Value.string ⟨#[]⟩)) 0 (ts.map Value.string))[ts.length]? = some (.string ⟨#[]⟩) := by
  simp [splice]

theorem new_oneP {T : TypeId} (w : World) (u : Value) : ∀ m x, ([u] : List Value)[m]? = some x → (w.alloc (.cells #[u] T)).cell? ((⟨w.heap.size, 0, none⟩ : Addr).add m) = some x := by
  intro m x hm
  match m, hm with
  | 0, hm => simp at hm; subst hm; simp [Addr.add]

theorem txt_oneP (t : ByteArray) : ∀ u ∈ ([.string t] : List Value), u.oneCell' = true := by
  intro u hu; simp at hu; subst hu; rfl

theorem copy_roomP (W : World) (g n xc : Nat) (xp : Option Addr) (L0 T1 : List Value) (hT : T1.length = n) (hL : L0.length = n + 2) (hg : W.heap[g]? = some (.cells L0.toArray 9 (0, 0)))
    (hsrc : 0 < T1.length → ∃ ad, xp = some ad ∧ ∀ j u, T1[j]? = some u → W.cell? (ad.add j) = some u) (h1 : ∀ u ∈ T1, u.oneCell' = true) :
    ∃ w3, (∀ ty, (Builtin.copy_ #[42, 42] ty #[.slice (some ⟨g, 0, none⟩) n (n + 2), .slice xp n xc]).run Tryz.prog W = .ok (goInt n) w3) ∧ w3.heap[g]? = some (.cells (splice L0 0 T1).toArray 9 (0, 0)) ∧ W.grownBy w3 (some g) := by
  subst hT
  by_cases h0 : T1.length = 0
  · obtain rfl := List.length_eq_zero_iff.1 h0
    refine ⟨W, fun ty => run_copy_none (P := Tryz.prog) W _ _ ty 9 _ _ 0 _ 0 _ Tryz.underlying42 strs_sizeP rfl, ?_, grownBy_refl _ _⟩
    rw [hg]
    simp [splice]
  · obtain ⟨ad, rfl, hs⟩ := hsrc (by omega)
    refine ⟨_, fun ty => run_copy_row (P := Tryz.prog) W _ _ ty 9 g 0 T1.length (T1.length + 2) ad T1.length xc L0.toArray 9 T1 Tryz.underlying42 strs_sizeP hg (by simp) hs (by simp; omega) h1, ?_, ?_⟩
    · rw [setRow_heap W g _ _ _ _ hg]
      simp [splice]
    · exact ⟨rfl, rfl, rfl, by simp [World.setRow], fun k _ hne => setRow_other W g k _ (fun e => hne (by rw [e]))⟩

theorem room_newP {w3 : World} {N S : Nat} {nm : ByteArray} {xt : List ByteArray} (hN : N ≤ S + 1) (h : w3.heap[S + 1]? = some (.cells (splice (List.replicate (xt.length + 2) (Value.string ⟨#[]⟩)) 0 (xt.map Value.string)).toArray 9 (0, 0))) :
    RoomP N (w3.setCell ⟨S + 1, xt.length, none⟩ (.string markP)) ⟨nm, some ⟨S + 1, 0, none⟩, xt.length + 2, xt⟩ := by
  refine ⟨S + 1, rfl, rfl, hN, ?_⟩
  rw [heap_setCell_same w3 (S + 1) xt.length _ _ _ h, room_cellsP]

/-- What the first loop has made. -/
structure InsP (w wc : World) (e : List Fx) (vi : Value) (W : World) : Prop where
  row : RowX wc.heap.size W vi e
  each : ∀ x ∈ e, RoomP wc.heap.size W x
  belc : Below wc.heap.size wc W
  old : Below w.heap.size w wc

theorem InsP.on {w wc W W' : World} {e : List Fx} {vi : Value} (h : InsP w wc e vi W) (hb : Below W.heap.size W W') : InsP w wc e vi W' :=
  ⟨own_on h.row hb, fun x hx => (h.each x hx).on hb, h.belc.trans (hb.mono h.belc.size), h.old⟩
theorem InsP.is {w wc W : World} {e : List Fx} {vi : Value} (h : InsP w wc e vi W) : IsXs W vi e := h.row.is fun x hx => (h.each x hx).at
theorem InsP.bel {w wc W : World} {e : List Fx} {vi : Value} (h : InsP w wc e vi W) : Below w.heap.size w W := bel_then h.old h.old.size h.belc

theorem keptZ_reflP (A B : Nat) (w : World) : KeptZ A B w.heap.size w w := ⟨rfl, rfl, rfl, Nat.le_refl _, fun _ _ _ => rfl⟩

/-- What the package's Apply answers: memory of its own. -/
def ApOwn (w : World) (V : List Fld) (l : List Ed) (e : Ending) (w' : World) : Prop :=
  ∃ u o, e = .returned (.tuple #[u, .int .i64 (codeA V l)]) ∧ OwnJ w.heap.size w' u o ∧ o.map Fx.fld = ansA V l ∧ Below w.heap.size w w'

/-- What lies at N or behind it stays where the blocks from N on stay. -/
theorem far_is {N : Nat} {w W : World} {v : Value} {o : List Fx} (h : IsXs w v o) (hf : FarV N v o) (hk : ∀ k, N ≤ k → k < w.heap.size → W.heap[k]? = w.heap[k]?) : IsXs W v o := by
  obtain ⟨p, c, rfl, hd, ht⟩ := h
  have hc : ∀ (b off : Nat) (u : Value), N ≤ b → w.cell? ⟨b, off, none⟩ = some u → W.cell? ⟨b, off, none⟩ = some u := fun b off u hb hu => by
    have := hk b hb (cell_block hu)
    rw [World.cell?_of_block (a := ⟨b, off, none⟩) this]
    exact hu
  refine ⟨p, c, rfl, ?_, fun x hx => ?_⟩
  · rcases hd with h | ⟨b, off, hp, hx⟩
    · exact Or.inl h
    · have hb := hf.1 b off _ _ (by rw [hp])
      exact Or.inr ⟨b, off, hp, fun i hi => ⟨hc _ _ _ hb (hx i hi).1, hc _ _ _ hb (hx i hi).2⟩⟩
  · rcases ht x hx with h | ⟨b, off, hp, hx2⟩
    · exact Or.inl h
    · exact Or.inr ⟨b, off, hp, fun i hi => hc _ _ _ (hf.2 x hx b off hp) (hx2 i hi)⟩

end Go.Proofs.YtelcongbnmfegaaGreatDoor

/-
  The walks of PatchApplies, PatchDiffs, PatchLines and PatchParses.
-/
namespace Go.Proofs.YtelcongbnmfegaaGreatDoor
open Go.RowKit

theorem int_eqE (n : Int) : (n == n) = true := by simp
theorem int_neE (n : Int) : (n != n) = false := by simp

set_option maxHeartbeats 4000000 in
set_option maxRecDepth 100000 in
theorem applies8_any (v u : Value) (d : List Fx) (l : List Ed) (w : World) (hv : IsXs w v d) (hf : FitX d) (hu : KE.Is w u l) (hfl : FitE l) (hp : GoodAt w) :
    Calls Tryz.prog 3 #[v, u] w fun e w' => e = .returned (.bool true) ∧ Below w.heap.size w w' := by
  have HF := hid (hfixed_any w hp)
  have HA := hid (fun W (hW : Below w.heap.size w W) => papply_any v u d l W (hv.kept hW) hf (KE.is_kept hu hW) hfl (hp.on hW))
  have HR := hid (fun W (hW : Below w.heap.size w W) => rapply_any v u d l W (hv.kept hW) hf (KE.is_kept hu hW) hfl)
  have HM := hid (fun W (hW : Below w.heap.size w W) => pmayE_any u l W (KE.is_kept hu hW) hfl (hp.on hW))
  have HN := hid (fun W (hW : Below w.heap.size w W) => rmayE_any u l W (KE.is_kept hu hW) hfl)
  obtain ⟨c, hc⟩ : ∃ c, codeA (d.map Fx.fld) l = c := ⟨_, rfl⟩
  obtain ⟨m, hm⟩ : ∃ m, mayE l = m := ⟨_, rfl⟩
  rw [hm] at HM HN
  have HC := hid hc
  have hmm := int_eqE m
  clear hv hf hu hfl hc hm hp
  go_enter Tryz.func3, Tryz.ntmps3
  go_wp2_with fail
  refine HF.out.mono ?_
  rintro e w1 ⟨rfl, q1⟩
  have HB1 := hid q1
  clear q1 HF
  go_wp2_with fail
  refine (HA.out w1 HB1.out).mono ?_
  rintro e w2 ⟨u2, o2, rfl, hi2, hm2, q2⟩
  have HB2 := hid (bel_then HB1.out HB1.out.size q2)
  have HI2 := hid hi2
  have HM2 := hid hm2
  rw [HC.out]
  clear hi2 hm2 q2 HA
  go_wp2_with fail
  refine (HR.out w2 HB2.out).mono ?_
  rintro e w3 ⟨u3, o3, rfl, hi3, hm3, q3⟩
  have HB3 := hid (bel_then HB2.out HB2.out.size q3)
  have HSM := hid (same_any u2 u3 o2 o3 c w3 (HI2.out.kept q3) hi3 (ansA_fit HM2.out) (ansA_fit hm3))
  rw [HM2.out, hm3, decide_eq_true rfl] at HSM
  rw [HC.out]
  clear hi3 hm3 q3 HR HI2 HM2
  go_wp2_with fail
  refine HSM.out.mono ?_
  rintro e w4 ⟨rfl, n4, q4⟩
  have HB4 := hid (bel_drewN HB3.out n4)
  rw [← q4] at HB4
  clear q4 HSM
  go_wp2_with fail
  refine (HM.out w4 HB4.out).mono ?_
  rintro e w5 ⟨rfl, q5⟩
  have HB5 := hid (bel_then HB4.out HB4.out.size q5)
  clear q5 HM
  go_wp2_with fail
  refine (HN.out w5 HB5.out).mono ?_
  rintro e w6 ⟨rfl, q6⟩
  have HB6 := HB5
  rw [← q6] at HB6
  clear q6 HN
  go_wp2_with fail
  go_ret
  exact ⟨rfl, HB6.out⟩

set_option maxHeartbeats 4000000 in
set_option maxRecDepth 100000 in
theorem diffs8_any (va vb : Value) (da db : List Fx) (w : World) (ha : IsXs w va da) (hb : IsXs w vb db) (hfa : FitX da) (hfb : FitX db) (hp : GoodAt w) :
    Calls Tryz.prog 4 #[va, vb] w fun e w' => e = .returned (.bool true) ∧ Below w.heap.size w w' := by
  have HF := hid (hfixed_any w hp)
  have HD := hid (fun W (hW : Below w.heap.size w W) => pdiff_any va vb da db W (ha.kept hW) (hb.kept hW) hfa hfb (hp.on hW))
  have HE := hid (fun W (hW : Below w.heap.size w W) => rdiff_any va vb da db W (ha.kept hW) (hb.kept hW) hfa hfb)
  obtain ⟨A, hA⟩ : ∃ A, da.map Fx.fld = A := ⟨_, rfl⟩
  obtain ⟨B, hB⟩ : ∃ B, db.map Fx.fld = B := ⟨_, rfl⟩
  have HAP := hid (fun W u l (hW : Below w.heap.size w W) (hu : KE.Is W u l) (hl : FitE l) => papply_any va u da l W (ha.kept hW) hfa hu hl (hp.on hW))
  have HVB := hid hb
  have HFB := hid hfb
  have HBB := hid hB
  rw [hA] at HD HE HAP
  rw [hB] at HD HE
  have hal : (ansDf A B).length ≤ maxLen := by
    unfold ansDf
    split
    · rename_i h
      have := (codeDf_zero h).2.2
      unfold maxLen; omega
    · exact Nat.zero_le _
  have HAL := hid hal
  clear ha hb hfa hfb hA hB hal hp
  obtain ⟨c, hc⟩ : ∃ c, codeDf A B = c := ⟨_, rfl⟩
  have HC := hid hc
  have hcc := int_neE c
  go_enter Tryz.func4, Tryz.ntmps4
  go_wp2_with fail
  refine HF.out.mono ?_
  rintro e w1 ⟨rfl, q1⟩
  have HB1 := hid q1
  clear q1 HF
  go_wp2_with fail
  refine (HD.out w1 HB1.out).mono ?_
  rintro e w2 ⟨u2, rfl, ho2, q2⟩
  have HB2 := hid (bel_then HB1.out HB1.out.size q2)
  have HO2 := hid ho2
  rw [hc]
  clear ho2 q2 HD
  go_wp2_with fail
  refine (HE.out w2 HB2.out).mono ?_
  rintro e w3 ⟨u3, rfl, ho3, q3⟩
  have HB3 := hid (bel_then HB2.out HB2.out.size q3)
  have hi2 := KE.is_kept (Kind.own_is HO2.out) q3
  have HI2 := hid hi2
  have HSM := hid (rsameE_any u2 u3 _ _ w3 hi2 (Kind.own_is ho3) HAL.out)
  rw [decide_eq_true rfl] at HSM
  rw [hc]
  clear ho3 q3 HE HO2 hi2
  go_wp2_with fail
  refine HSM.out.mono ?_
  rintro e w4 ⟨rfl, n4, q4⟩
  have HB4 := hid (bel_drewN HB3.out n4)
  rw [← q4] at HB4
  have HI4 : Hid (KE.Is w4 u2 (ansDf A B)) := by rw [q4]; exact HI2.out
  clear q4 HSM HI2
  by_cases h0 : c = 0
  · subst h0
    have hap := diff_applies hc
    have e1 : ansDf A B = diffE A B := by unfold ansDf; rw [if_pos hc]
    have hfl : FitE (ansDf A B) := by
      rw [e1]
      exact mayE_fit (codeA_zero hap.1).2.1
    have HA4 := hid (HAP.out w4 u2 _ HB4.out HI4.out hfl)
    rw [e1] at HA4
    have HP1 := hid hap.1
    have HP2 := hid hap.2
    clear hap e1 hfl hc
    go_wp2_with fail
    refine HA4.out.mono ?_
    rintro e w5 ⟨u5, o5, rfl, hi5, hm5, q5⟩
    have HB5 := hid (bel_then HB4.out HB4.out.size q5)
    have HSF := hid (sameF_any u5 vb o5 db w5 hi5 (HVB.out.kept HB5.out) (ansA_fit hm5) HFB.out)
    rw [hm5, HBB.out, HP2.out, decide_eq_true rfl] at HSF
    rw [HP1.out]
    clear hi5 hm5 q5 HA4
    go_wp2_with fail
    refine HSF.out.mono ?_
    rintro e w6 ⟨rfl, n6, q6⟩
    have HB6 := hid (bel_drewN HB5.out n6)
    rw [← q6] at HB6
    clear q6
    go_wp2_with fail
    go_ret
    exact ⟨rfl, HB6.out⟩
  · have hne : (c != 0) = true := by rw [bne_iff_ne]; exact h0
    clear h0 hc
    go_wp2_with fail
    go_ret
    exact ⟨rfl, HB4.out⟩

end Go.Proofs.YtelcongbnmfegaaGreatDoor

/-
  The walk of PatchKeeps.
-/
namespace Go.Proofs.YtelcongbnmfegaaGreatDoor
open Go.RowKit Go.Lib

set_option maxHeartbeats 16000000 in
set_option maxRecDepth 100000 in
theorem keeps8_any (v u : Value) (d : List Fx) (l : List Ed) (w : World) (hv : IsXs w v d) (hf : FitX d) (hc : CopyX d) (hu : KE.Is w u l) (hfl : FitE l) (hp : GoodAt w)
    (hAP : ∀ (W : World) (v' : Value) (d' : List Fx), IsXs W v' d' → FitX d' → KE.Is W u l → GoodAt W → Calls Tryz.prog 10 #[v', u] W fun e w' => ApOwn W (d'.map Fx.fld) l e w') :
    Calls Tryz.prog 8 #[v, u] w fun e w' => e = .returned (.bool true) ∧ Below w.heap.size w w' := by
  obtain ⟨j0, hj0, hy0, hy1, hy2⟩ := info_parts Tryz.infoFld
  obtain ⟨i0, hi0, hz0, hz1, hz2⟩ := info_parts Tryz.infoStr
  have HJ := hid hj0
  have HI := hid hi0
  have HMK : Hid (∀ (n : Nat), n ≤ 8796093022208 → ∀ W : World, (Instr.makeSlice 42 (.int .i64 (n : Int)) (.int .i64 ((n : Int) + 2))).run Tryz.prog W = .ok (.slice (some ⟨W.heap.size, 0, none⟩) n (n + 2)) (W.alloc (.cells (List.replicate (n + 2) (Value.string ⟨#[]⟩)).toArray 9))) := fun n hn W => by
    have := run_make (P := Tryz.prog) W 42 9 i0 (.string ⟨#[]⟩) Tryz.underlying42 hi0 hz0 .i64 .i64 (n : Int) ((n : Int) + 2) (by omega) (by omega) (by rw [hz2]; omega) (by omega)
    rw [this, hz1, show ((n : Int) + 2).toNat = n + 2 by omega, made_strsP, Int.toNat_natCast]
  have HV := hid hv
  have HU := hid hu
  have HF := hid hf
  have HCP := hid hc
  have HFL := hid hfl
  have HGD := hid hp
  have HAP := hid hAP
  have HFX := hid (hfixed_any w hp)
  obtain ⟨pv, cv, rfl, hdv, htv⟩ := HV.out
  have HDV := hid hdv
  have HTV := hid htv
  have hl : d.length ≤ 3518437208883 := by have := hc.1; omega
  clear hj0 hi0 hv hu hf hc hfl hp hAP hdv htv
  go_enter Tryz.func8, Tryz.ntmps8
  go_wp2_with fail
  refine HFX.out.mono ?_
  rintro e0 Wc ⟨rfl, hq1⟩
  have HBC := hid hq1
  have hwWc := hq1.size
  clear hq1 HFX
  go_wp2_with fail
  go_loopg [5, 23] d.length (fun g vi vk ws => ∃ (i : Nat) (e : List Fx), vk = .int .i64 i ∧ i ≤ d.length ∧ d.length - i ≤ g ∧ Hid (e.length = i) ∧ Hid (e.map Fx.fld = (d.map Fx.fld).take i) ∧ Hid (InsP w Wc e vi ws))
  case atStart => exact ⟨0, [], rfl, by omega, by omega, rfl, (show Hid _ from by simp [Hid]), World.ownsRow_nil _ _ _ _, fun x hx => by simp at hx, Below.refl _ _, HBC.out⟩
  case round =>
  obtain ⟨i, e, rfl, hi, hgk, HEL, HEM, HIN⟩ := hrel
  by_cases hlt : i < d.length
  · have hltz : (i : Int) < (d.length : Int) := by omega
    have hiz : (0 : Int) ≤ (i : Int) := by omega
    obtain ⟨b, off, rfl, hxs⟩ : ∃ b off, pv = some ⟨b, off, none⟩ ∧ XsAt w b off d := by
      rcases HDV.out with h | h
      · subst h; simp at hlt
      · exact h
    obtain ⟨c0, c1⟩ := hxs.kept HIN.out.bel i hlt
    unfold Fx.sl at c1
    have hxt := HTV.out _ (List.getElem_mem hlt)
    have hem : (d.map Fx.fld).take (i + 1) = (d.map Fx.fld).take i ++ [(d[i]).fld] := by
      rw [List.take_succ_eq_append_getElem (by simpa using hlt)]; simp
    have hxl : (d[i]).txt.length ≤ 8796093022208 := by have := HCP.out.2 _ (List.getElem_mem hlt); omega
    obtain ⟨x, hx⟩ : ∃ x, d[i] = x := ⟨_, rfl⟩
    rw [hx] at c0 c1 hxt hem hxl
    obtain ⟨nm, xp, xc, xt⟩ := x
    simp only at c0 c1 hxl
    have hxt2 : TxtAt w xp xt := hxt
    have HXT := hid hxt2
    have HM1 := hid hem
    have hmk := HMK.out xt.length hxl
    obtain ⟨L0, hL0⟩ : ∃ L0, List.replicate (xt.length + 2) (Value.string ⟨#[]⟩) = L0 := ⟨_, rfl⟩
    rw [hL0] at hmk
    obtain ⟨T1, hT1⟩ : ∃ T1, xt.map Value.string = T1 := ⟨_, rfl⟩
    have HL0 := hid hL0
    have HT1 := hid hT1
    have hT1l : T1.length = xt.length := by rw [← hT1]; simp
    have HTL := hid hT1l
    have hL0l : L0.length = xt.length + 2 := by rw [← hL0]; simp
    have HLL := hid hL0l
    have HT1O : Hid (∀ u ∈ T1, u.oneCell' = true) := by show ∀ u ∈ T1, _; rw [← hT1]; exact txts_one _
    obtain ⟨S, hS⟩ : ∃ S, wr.heap.size = S := ⟨_, rfl⟩
    have HS := hid hS
    have hwS := HIN.out.belc.size
    rw [hS] at hwS
    have HSRC : Hid (∀ W, Below w.heap.size w W → 0 < T1.length → ∃ ad, xp = some ad ∧ ∀ j u, T1[j]? = some u → W.cell? (ad.add j) = some u) := fun W hW hpos => by
      rcases src_ts (HXT.out.kept hW) with h | h
      · omega
      · rw [← hT1]; exact h
    clear hxs hxt hxt2 hx hem hL0 hT1 hT1l hL0l
    obtain ⟨W2, hW2⟩ : ∃ W2, (wr.alloc (.cells #[.string nm, .slice xp xt.length xc] 44)).alloc (.cells L0.toArray 9) = W2 := ⟨_, rfl⟩
    have hbw2 : Below wr.heap.size wr W2 := by rw [← hW2]; exact ((Below.refl _ _).alloc (Nat.le_refl _) _).alloc (by simp) _
    obtain ⟨w3, hcp, h3, hg3⟩ := copy_roomP W2 (S + 1) xt.length xc xp L0 T1 HTL.out HLL.out (by rw [← hW2, ← hS]; have := heap_alloc_new (wr.alloc (.cells #[.string nm, .slice xp xt.length xc] 44)) (.cells L0.toArray 9); rw [World.size_alloc] at this; exact this) (HSRC.out W2 (bel_then HIN.out.bel HIN.out.bel.size hbw2)) HT1O.out
    rw [← HL0.out, ← HT1.out] at h3
    have hbox2 : W2.heap[S]? = some (.cells #[.string nm, .slice xp xt.length xc] 44 (0, 0)) := by
      rw [← hW2, ← hS]
      exact (Below.heap_alloc _ _ _ (by simp)).trans (heap_alloc_new wr _)
    obtain ⟨k20, k21, _, _⟩ := box_facts hbox2
    have hw2S : W2.heap.size = S + 2 := by rw [← hW2]; simp [hS]
    have hbox3 : w3.heap[S]? = some (.cells #[.string nm, .slice xp xt.length xc] 44 (0, 0)) := (hg3.block S (by omega) (by simp)).trans hbox2
    have cm : w3.cell? ⟨S + 1, xt.length, none⟩ = some (.string ⟨#[]⟩) := by
      rw [cell_of_row w3 (S + 1) _ _ _ _ h3, ← splice_atP xt]
      simp
    have fm : w3.frozen? ⟨S + 1, xt.length, none⟩ = false := Lib.frozen_of_heap h3 _
    have hbw3 : Below wr.heap.size wr w3 := hbw2.grown hg3 (by omega) (fun k hk => by cases hk; omega)
    have hsz3 := hg3.size
    have H3 := hid h3
    have HBX3 := hid hbox3
    have HBW3 := hid hbw3
    have n1 : (0 : Int) ≤ (xt.length : Int) + 1 := by omega
    have n2 : (xt.length : Int) < (xt.length : Int) + 1 := by omega
    have n3 : (xt.length : Int) + 1 ≤ (xt.length : Int) + 2 := by omega
    clear h3 hbox3 hbox2 hbw3 hg3 hbw2 hw2S
    go_upto_region 10 with fail
    clear k20 k21 cm fm hcp hmk c0 c1
    obtain ⟨W4, hW4⟩ : ∃ W4, w3.setCell ⟨S + 1, xt.length, none⟩ (.string ⟨#[109, 97, 114, 107]⟩) = W4 := ⟨_, rfl⟩
    rw [hW4]
    have hsz4 : w3.heap.size ≤ W4.heap.size := by rw [← hW4]; simp [World.setCell]
    have hw2s : S + 2 ≤ W2.heap.size := by rw [← hW2]; simp; omega
    have hb4 : Below wr.heap.size wr W4 := by rw [← hW4]; exact HBW3.out.setCell (p := ⟨S + 1, xt.length, none⟩) (by show _ ≤ S + 1; omega) _
    have hr4 : RoomP Wc.heap.size W4 ⟨nm, some ⟨S + 1, 0, none⟩, xt.length + 2, xt⟩ := by rw [← hW4]; exact room_newP (by omega) H3.out
    have hbx4 : W4.heap[S]? = some (.cells #[.string nm, .slice xp xt.length xc] 44 (0, 0)) := by
      rw [← hW4]
      exact (Below.heap_setCell w3 _ _ S (by show S ≠ S + 1; omega)).trans HBX3.out
    obtain ⟨k40, k41, _, _⟩ := box_facts hbx4
    have HIN4 := hid (HIN.out.on hb4)
    have HR4 := hid hr4
    have hel : e.length + 1 ≤ 3518437208883 := by have := HEL.out; omega
    obtain ⟨W7, hW7⟩ : ∃ W7, W4.alloc (.cells #[.string nm, .slice (some ⟨S + 1, 0, none⟩) xt.length (xt.length + 2)] 44) = W7 := ⟨_, rfl⟩
    have hb47 : Below W4.heap.size W4 W7 := by rw [← hW7]; exact (Below.refl _ _).alloc (Nat.le_refl _) _
    have HIN7 := hid (HIN4.out.on hb47)
    have HR7 := hid (HR4.out.on hb47)
    have HC7 := hid (news_x W4 ⟨nm, some ⟨S + 1, 0, none⟩, xt.length + 2, xt⟩)
    simp only at HC7
    rw [hW7] at HC7
    have hw7 := HIN7.out.belc.size
    clear hW4 hb4 hr4 hbx4 hb47 hW2 H3 HBX3 HBW3
    go_wp2_with (first | (at_builtin; refine wpList_append_own _ rfl _ _ 22 rfl Wc.heap.size 44 j0 (.agg #[.string ⟨#[]⟩, .slice none 0 0]) 2 40 Tryz.underlying22 HJ.out hy0 hy1 hy2 rfl (by decide) _ _ _ rfl HIN7.out.row ⟨W4.heap.size, 0, none⟩ 1 1 (cellsX [⟨nm, some ⟨S + 1, 0, none⟩, xt.length + 2, xt⟩]) rfl rfl HC7.out (cellsX_one _) (by unfold maxLen; omega) (by omega) hw7 ?_))
    intro v8 w8 hown8 hg8 _
    have HIN8 : Hid (InsP w Wc (e ++ [⟨nm, some ⟨S + 1, 0, none⟩, xt.length + 2, xt⟩]) v8 w8) := by
      refine ⟨?_, fun x hx => ?_, HIN7.out.belc.grown hg8 hw7 (fun k hk => (World.ownsRow.lt HIN7.out.row k hk).1), HIN7.out.old⟩
      · unfold RowX; rw [cellsX_append, List.length_append]; exact hown8
      · rw [List.mem_append, List.mem_singleton] at hx
        rcases hx with hx | rfl
        · exact (HIN7.out.each x hx).else HIN7.out.row (by decide) hg8
        · exact HR7.out.else HIN7.out.row (by decide) hg8
    have HEL8 : Hid ((e ++ [(⟨nm, some ⟨S + 1, 0, none⟩, xt.length + 2, xt⟩ : Fx)]).length = i + 1) := by show _ = _; rw [List.length_append, HEL.out]; rfl
    have HEM8 : Hid ((e ++ [(⟨nm, some ⟨S + 1, 0, none⟩, xt.length + 2, xt⟩ : Fx)]).map Fx.fld = (d.map Fx.fld).take (i + 1)) := by show _ = _; rw [List.map_append, HEM.out, HM1.out]; rfl
    clear hown8 hg8 k40 k41
    go_wp2_with fail
    go_roundg (d.length - (i + 1))
    case measure => omega
    case rel => exact ⟨i + 1, _, by go_num, by omega, by omega, HEL8, HEM8, HIN8⟩
  have hltz : ¬ (i : Int) < (d.length : Int) := by omega
  have hfe : e.map Fx.fld = d.map Fx.fld := by
    have h1 := HEM.out
    rwa [List.take_of_length_le (by rw [List.length_map]; omega)] at h1
  have HFE := hid hfe
  clear HEM
  obtain ⟨pi, ci, hvi, _, _⟩ := HIN.out.is
  subst hvi
  have hel : e.length ≤ 3518437208883 := by have := HEL.out; omega
  have hfx : FitX e := ⟨by unfold maxLen; omega, fun x hx => by
    have : x.fld ∈ d.map Fx.fld := by rw [← HFE.out]; exact List.mem_map.2 ⟨x, hx, rfl⟩
    obtain ⟨y, hy, ey⟩ := List.mem_map.1 this
    rw [← ey]; exact HF.out.2 y hy⟩
  have HFX := hid hfx
  have HT16 : Hid (∀ x ∈ e, x.txt.length ≤ 8796093022208) := fun x hx => by
    have : x.fld ∈ d.map Fx.fld := by rw [← HFE.out]; exact List.mem_map.2 ⟨x, hx, rfl⟩
    obtain ⟨y, hy, ey⟩ := List.mem_map.1 this
    have h1 := HCP.out.2 y hy
    have h2 : x.txt = y.txt := (congrArg Prod.snd ey).symm
    rw [h2]; omega
  have HRA : Hid (∀ W, Below wr.heap.size wr W → Calls Tryz.prog 10 #[.slice pi e.length ci, u] W fun q w' => ApOwn W (d.map Fx.fld) l q w') := fun W hW => by
    have hbw := bel_then HIN.out.bel HIN.out.bel.size hW
    have := HAP.out W (.slice pi e.length ci) e (HIN.out.on hW).is hfx (KE.is_kept HU.out hbw) (HGD.out.on hbw)
    rw [HFE.out] at this
    exact this
  have HRR : Hid (∀ W, Below w.heap.size w W → Calls Tryz.prog 11 #[.slice pv d.length cv, u] W fun q w' => ApFar W (d.map Fx.fld) l q w') := fun W hW => rapply_far _ u d l W (HV.out.kept hW) HF.out (KE.is_kept HU.out hW) HFL.out
  obtain ⟨V, hV⟩ : ∃ V, d.map Fx.fld = V := ⟨_, rfl⟩
  rw [hV] at HRA HRR
  obtain ⟨C0, hC0⟩ : ∃ C0, codeA V l = C0 := ⟨_, rfl⟩
  have hcc := int_neE C0
  have HSM : Hid (∀ o : List Fx, o.map Fx.fld = ansA V l → o.length ≤ 1000 ∧ ∀ x ∈ o, x.txt.length ≤ 1000) := fun o ho => by
    by_cases h0 : codeA V l = 0
    · have h1 := okR_may (ansA_may h0)
      refine ⟨by have := h1.len; rw [← ho, List.length_map] at this; omega, fun x hx => ?_⟩
      have h2 := (h1.each x.fld (by rw [← ho]; exact List.mem_map.2 ⟨x, hx, rfl⟩)).2.1
      have h3 : x.txt.length ≤ 8 + 0 := h2
      omega
    · rw [ansA_none h0] at ho
      have : o = [] := List.map_eq_nil_iff.1 ho
      subst this
      exact ⟨Nat.zero_le _, fun x hx => by cases hx⟩
  clear hfe hfx HMK HJ hy0 hy1 hy2 HAP HU HFL HGD HCP
  go_wp2_with fail
  refine (HRA.out wr (Below.refl _ _)).mono ?_
  rintro q wa ⟨ua, oa, rfl, oA, mA, qA⟩
  obtain ⟨pa, ca, hua⟩ := own_len oA.1
  subst hua
  rw [hC0]
  have OA := hid oA
  have MA := hid mA
  have QA := hid qA
  clear oA mA qA
  go_wp2_with fail
  refine (HRA.out wa QA.out).mono ?_
  rintro q wb ⟨uc, oc, rfl, oB, mB, qB⟩
  rw [hC0]
  have OB := hid oB
  have MC := hid mB
  have QB := hid qB
  have BB := hid (bel_then QA.out QA.out.size qB)
  clear oB mB qB HRA
  go_wp2_with fail
  refine (HRR.out wb (bel_then HIN.out.bel HIN.out.bel.size BB.out)).mono ?_
  rintro q wd ⟨uw, ow, rfl, ⟨iW, fW⟩, mW, qW⟩
  rw [hC0]
  have IW := hid iW
  have FW := hid fW
  have MW := hid mW
  have QW := hid qW
  have BD := hid (bel_then BB.out BB.out.size qW)
  have OAD := hid (OA.out.on (bel_then QB.out QB.out.size qW))
  have HSD := hid (sameF_any (.slice pa oa.length ca) uw oa ow wd OAD.out.1.is iW (ansA_fit MA.out) (ansA_fit mW))
  rw [MA.out, mW, decide_eq_true rfl] at HSD
  clear iW fW mW qW HRR hC0
  go_wp2_with fail
  refine HSD.out.mono ?_
  rintro q we ⟨rfl, ne, hwe⟩
  clear HSD
  have hdw : Below wd.heap.size wd we := by rw [hwe]; exact bel_drewN (Below.refl _ _) ne
  obtain ⟨A, hA⟩ : ∃ A, wr.heap.size = A := ⟨_, rfl⟩
  obtain ⟨B, hB⟩ : ∃ B, wa.heap.size = B := ⟨_, rfl⟩
  have hAB : A ≤ B := by rw [← hA, ← hB]; exact QA.out.size
  have hwbB : B ≤ wb.heap.size := by rw [← hB]; exact QB.out.size
  have hBw : B ≤ we.heap.size := Nat.le_trans hwbB (Nat.le_trans QW.out.size hdw.size)
  have HX0 : Hid (XSt A B we.heap.size we (.slice pa oa.length ca) oa we) := by
    have h1 := OAD.out.on hdw
    rw [hA] at h1
    refine ⟨h1, fun k hk => Or.inl ?_, fun x hx k hk => Or.inl ?_, keptZ_reflP _ _ _⟩
    · rw [← hB]; exact (World.ownsRow.lt OA.out.1.1 k hk).2
    · rw [← hB]; exact (World.ownsRow.lt (OA.out.1.2 x hx) k hk).2
  have HOB : Hid (OwnXs B we uc oc) := by
    have h1 := OB.out.1.on (bel_then QW.out QW.out.size hdw)
    rw [hB] at h1
    exact h1
  have HWE : Hid (IsXs we uw ow) := IW.out.kept hdw
  have HFW : Hid (FarV B uw ow) := ⟨fun b off n c h => Nat.le_trans hwbB (FW.out.1 b off n c h), fun x hx b off h => Nat.le_trans hwbB (FW.out.2 x hx b off h)⟩
  have HAE : Hid (Below A wr we) := by rw [← hA]; exact bel_then BD.out BD.out.size hdw
  have HAB : Hid (A ≤ B ∧ B ≤ we.heap.size) := ⟨hAB, hBw⟩
  have HON : Hid (∀ W, Below A wr W → InsP w Wc e (.slice pi e.length ci) W) := fun W h => HIN.out.on (by rw [hA]; exact h)
  obtain ⟨ox, cx, hox⟩ : ∃ ox cx, oa = ox ∧ ca = cx := ⟨_, _, rfl, rfl⟩
  obtain ⟨rfl, rfl⟩ := hox
  obtain ⟨px, rfl⟩ : ∃ px, px = pa := ⟨_, rfl⟩
  have hz := HSM.out oa MA.out
  have HOX : Hid (∀ k, (h : k < oa.length) → (oa[k]).txt.length ≤ 1000) := fun k h => hz.2 _ (List.getElem_mem h)
  have hnx := hz.1
  clear hz hdw hA hB hAB hwbB hBw OA QA OB QB BB IW FW QW BD OAD HIN hwe HSM
  go_wp2_with fail
  go_loopg [89] oa.length (fun g vi ws => ∃ (i : Nat) (o : List Fx), vi = .int .i64 i ∧ i ≤ oa.length ∧ oa.length - i ≤ g ∧ Hid (o.length = oa.length) ∧ Hid (∀ k, i ≤ k → o[k]? = oa[k]?) ∧ Hid (XSt A B we.heap.size we (.slice px oa.length ca) o ws))
  case atStart => exact ⟨0, oa, rfl, by omega, by omega, rfl, fun _ _ => rfl, HX0⟩
  case round =>
  clear HX0
  obtain ⟨a, o, rfl, hai, hga, HOL, HOK, HXS⟩ := hrel
  by_cases halt : a < oa.length
  · have haz : (a : Int) < (oa.length : Int) := by omega
    have ha0 : (0 : Int) ≤ (a : Int) := by omega
    have hao : a < o.length := by rw [HOL.out]; exact halt
    obtain ⟨gx, ca', hsx⟩ := HXS.out.shape (by omega)
    rw [HOL.out] at hsx
    injection hsx with hs1 hs2 hs3
    subst hs1
    clear hs2 hs3
    obtain ⟨c0, c1, f0, f1⟩ := HXS.out.cells HOL.out hao
    have hy8 : (o[a]).txt.length ≤ 1000 := by
      have h1 := HOK.out a (Nat.le_refl _)
      rw [List.getElem?_eq_getElem hao, List.getElem?_eq_getElem halt] at h1
      rw [Option.some.inj h1]
      exact HOX.out a halt
    have HO1 : Hid (∃ h : a < o.length, (o[a]).txt.length = (o[a]).txt.length) := ⟨hao, rfl⟩
    have HOK1 : Hid (∀ k, a < k → o[k]? = oa[k]?) := fun k hk => HOK.out k (by omega)
    obtain ⟨m, hm⟩ : ∃ m, (o[a]).txt.length = m := ⟨_, rfl⟩
    have HOM : Hid (∃ h : a < o.length, (o[a]).txt.length = m) := ⟨hao, hm⟩
    unfold Fx.sl at c1
    rw [hm] at c1 hy8
    clear HO1 HOK hm
    generalize (o[a]).name = nm0 at c0
    generalize (o[a]).p = p0 at c1
    generalize (o[a]).cap = cc0 at c1
    go_wp2_with fail
    clear c0 c1 f0 f1
    go_loopg [98] m (fun g vj ws => ∃ (j : Nat) (o : List Fx), vj = .int .i64 j ∧ j ≤ m ∧ m - j ≤ g ∧ Hid (o.length = oa.length) ∧ Hid (∃ h : a < o.length, (o[a]).txt.length = m) ∧ Hid (∀ k, a < k → o[k]? = oa[k]?) ∧ Hid (XSt A B we.heap.size we (.slice (some ⟨gx, 0, none⟩) oa.length ca) o ws))
    case atStart => exact ⟨0, o, rfl, by omega, by omega, HOL, HOM, HOK1, HXS⟩
    case round =>
    clear hao HOL HOM HOK1 HXS
    obtain ⟨j, o2, rfl, hj, hgj, HOL, HOM, HOK, HXS⟩ := hrel
    obtain ⟨hao, hm⟩ := HOM.out
    obtain ⟨c0, c1, f0, f1⟩ := HXS.out.cells HOL.out hao
    by_cases hjl : j < m
    · have hjz : (j : Int) < (m : Int) := by omega
      have hj0 : (0 : Int) ≤ (j : Int) := by omega
      have hot := HXS.out.own.1.2 _ (List.getElem_mem hao)
      obtain ⟨gt, hpt⟩ : ∃ gt, (o2[a]).p = some ⟨gt, 0, none⟩ := by
        rcases hot.2 with ⟨_, h0⟩ | ⟨g, c, cur, hv, _⟩
        · omega
        · unfold Fx.sl at hv
          injection hv with h1 _ _
          exact ⟨g, h1⟩
      have hrow : wr.ownsRow A 9 1 (.slice (some ⟨gt, 0, none⟩) (o2[a]).txt.length (o2[a]).cap) (o2[a]).txt.length ((o2[a]).txt.map Value.string) := by
        have := hot
        unfold OwnT Fx.sl at this
        rw [hpt] at this
        exact this
      have d0 : wr.cell? ⟨gt, j, none⟩ = some (.string ((o2[a]).txt[j]'(by omega))) := by
        rw [hrow.cellAt _ (by omega)]
        simp [show j < (o2[a]).txt.length by omega]
      have d1 : wr.frozen? ⟨gt, j, none⟩ = false := hrow.frozenAt _
      have HW := hid (HXS.out.wipe hao (j := j) hpt ⟨#[119, 105, 112, 101, 100]⟩)
      have HOL2 : Hid ((o2.set a ⟨(o2[a]).name, (o2[a]).p, (o2[a]).cap, (o2[a]).txt.set j ⟨#[119, 105, 112, 101, 100]⟩⟩).length = oa.length) := by show _ = _; rw [List.length_set]; exact HOL.out
      have HOM2 : Hid (∃ h : a < (o2.set a ⟨(o2[a]).name, (o2[a]).p, (o2[a]).cap, (o2[a]).txt.set j ⟨#[119, 105, 112, 101, 100]⟩⟩).length, ((o2.set a ⟨(o2[a]).name, (o2[a]).p, (o2[a]).cap, (o2[a]).txt.set j ⟨#[119, 105, 112, 101, 100]⟩⟩)[a]).txt.length = m) := ⟨by rw [List.length_set]; exact hao, by rw [List.getElem_set_self]; simp only [List.length_set]; exact hm⟩
      have HOK2 : Hid (∀ k, a < k → (o2.set a ⟨(o2[a]).name, (o2[a]).p, (o2[a]).cap, (o2[a]).txt.set j ⟨#[119, 105, 112, 101, 100]⟩⟩)[k]? = oa[k]?) := fun k hk => by rw [List.getElem?_set_ne (by omega)]; exact HOK.out k hk
      unfold Fx.sl at c1
      rw [hm, hpt] at c1
      generalize (o2[a]).name = nm1 at c0
      generalize (o2[a]).cap = cc1 at c1
      generalize ((o2[a]).txt[j]'(by omega)) = tj at d0
      clear hot hrow hpt hm
      go_wp2_with fail
      go_roundg (m - (j + 1))
      case measure => omega
      case rel => exact ⟨j + 1, _, by go_num, by omega, by omega, HOL2, HOM2, HOK2, HW⟩
    · have hjz : ¬ (j : Int) < (m : Int) := by omega
      clear c0 c1 f0 f1
      have HOM0 : Hid (∃ h : a < o2.length, (o2[a]).txt.length = m + 0) := ⟨hao, hm⟩
      clear hm hao HOM
      go_wp2_with fail
      go_loopg [109] 4 (fun g vj ws => ∃ (q : Nat) (o : List Fx), vj = .int .i64 q ∧ q ≤ 4 ∧ 4 - q ≤ g ∧ Hid (o.length = oa.length) ∧ Hid (∃ h : a < o.length, (o[a]).txt.length = m + q) ∧ Hid (∀ k, a < k → o[k]? = oa[k]?) ∧ Hid (XSt A B we.heap.size we (.slice (some ⟨gx, 0, none⟩) oa.length ca) o ws))
      case atStart => exact ⟨0, o2, rfl, by omega, by omega, HOL, HOM0, HOK, HXS⟩
      case round =>
      clear HOL HOM0 HOK HXS
      obtain ⟨q, o3, rfl, hq, hgq, HOL, HOM, HOK, HXS⟩ := hrel
      obtain ⟨hao, hm⟩ := HOM.out
      obtain ⟨c0, c1, f0, f1⟩ := HXS.out.cells HOL.out hao
      by_cases hq9 : q < 4
      · have hqz : (q : Int) < 4 := by omega
        have hot := HXS.out.own.1.2 _ (List.getElem_mem hao)
        obtain ⟨T3, hT3⟩ : ∃ T3, (o3[a]).txt.map Value.string = T3 := ⟨_, rfl⟩
        have hrow : wr.ownsRow A 9 1 (.slice (o3[a]).p (m + q) (o3[a]).cap) (m + q) T3 := by
          have := hot
          unfold OwnT Fx.sl at this
          rw [hT3, hm] at this
          exact this
        have hsl : (o3[a]).sl = .slice (o3[a]).p (m + q) (o3[a]).cap := by unfold Fx.sl; rw [hm]
        have HROW := hid (World.ownsRow.alloc hrow (.cells #[.string ⟨#[109, 111, 114, 101]⟩] 9))
        have HX1 := hid (HXS.out.alloc (.cells #[.string ⟨#[109, 111, 114, 101]⟩] 9))
        have hAw : A ≤ wr.heap.size := by
          have := HXS.out.kept.size
          have h3 := HAB.out
          omega
        have HT3 := hid hT3
        have HSL := hid hsl
        have HM := hid hm
        have KG : Hid (∀ g4 c4 w4, w4.ownsRow A 9 1 (.slice (some ⟨g4, 0, none⟩) (m + q + 1) c4) (m + q + 1) (T3 ++ [.string ⟨#[109, 111, 114, 101]⟩]) → (wr.alloc (.cells #[.string ⟨#[109, 111, 114, 101]⟩] 9)).grownBy w4 (Value.slice (o3[a]).p (m + q) (o3[a]).cap).ownBlock →
            ((Value.slice (some ⟨g4, 0, none⟩) (m + q + 1) c4).ownBlock = (Value.slice (o3[a]).p (m + q) (o3[a]).cap).ownBlock ∨ (Value.slice (some ⟨g4, 0, none⟩) (m + q + 1) c4).ownBlock = some (wr.alloc (.cells #[.string ⟨#[109, 111, 114, 101]⟩] 9)).heap.size) →
            w4.cell? ⟨gx, a * 2 + 1, none⟩ = some (.slice (o3[a]).p (m + q) (o3[a]).cap) ∧ w4.frozen? ⟨gx, a * 2 + 1, none⟩ = false ∧ Hid (XSt A B we.heap.size we (.slice (some ⟨gx, 0, none⟩) oa.length ca) (o3.set a ⟨(o3[a]).name, some ⟨g4, 0, none⟩, c4, (o3[a]).txt ++ [⟨#[109, 111, 114, 101]⟩]⟩) (w4.setCell ⟨gx, a * 2 + 1, none⟩ (.slice (some ⟨g4, 0, none⟩) (m + q + 1) c4)))) := fun g4 c4 w4 h1 h2 h3 => by
          rw [← HSL.out] at h2 h3 ⊢
          exact HX1.out.grow HOL.out hao (ts := (o3[a]).txt ++ [⟨#[109, 111, 114, 101]⟩]) (by rw [List.length_append, HM.out]; rfl) (by rw [List.map_append, HT3.out]; exact h1) h2 h3
        have HOL2 : Hid (∀ y : Fx, (o3.set a y).length = oa.length) := fun y => by rw [List.length_set]; exact HOL.out
        have HOM2 : Hid (∀ y : Fx, y.txt.length = m + (q + 1) → ∃ h : a < (o3.set a y).length, ((o3.set a y)[a]).txt.length = m + (q + 1)) := fun y hy => ⟨by rw [List.length_set]; exact hao, by rw [List.getElem_set_self]; exact hy⟩
        have HTLN : Hid (((o3[a]).txt ++ [(⟨#[109, 111, 114, 101]⟩ : ByteArray)]).length = m + (q + 1)) := by show _ = _; rw [List.length_append, HM.out]; rfl
        have HOK2 : Hid (∀ y : Fx, ∀ k, a < k → (o3.set a y)[k]? = oa[k]?) := fun y k hk => by rw [List.getElem?_set_ne (by omega)]; exact HOK.out k hk
        rw [hsl] at c1
        clear hot hrow hT3 hsl hm c0 f0
        generalize (o3[a]).p = p3 at c1 HROW KG
        generalize (o3[a]).cap = cc3 at c1 HROW KG
        go_wp2_with (first | (at_builtin; refine wpList_append_own_at _ rfl _ _ 42 rfl A 9 i0 (.string ⟨#[]⟩) 1 16 Tryz.underlying42 HI.out hz0 hz1 hz2 rfl (by decide) _ _ _ rfl HROW.out ⟨wr.heap.size, 0, none⟩ 1 1 [.string ⟨#[109, 111, 114, 101]⟩] rfl rfl (new_oneP _ _) (txt_oneP _) (by unfold maxLen; omega) (by omega) (by simp; omega) ?_))
        intro v4 w4 hown4 hg4 _ hat4
        obtain ⟨g4, c4, rfl⟩ := ownsRow_succ hown4
        obtain ⟨d1, d2, HX4⟩ := KG.out g4 c4 w4 hown4 hg4 (by rw [World.size_alloc]; exact hat4)
        clear hown4 hg4 hat4 c1 f1
        go_wp2_with fail
        go_roundg (4 - (q + 1))
        case measure => omega
        case rel => exact ⟨q + 1, _, by go_num, by omega, by omega, HOL2.out _, HOM2.out _ HTLN.out, HOK2.out _, HX4⟩
      · have hqz : ¬ (q : Int) < 4 := by omega
        have HRN := hid (HXS.out.rename HOL.out hao ⟨#[119, 105, 112, 101, 100]⟩)
        have HOL2 : Hid (∀ y : Fx, (o3.set a y).length = oa.length) := fun y => by rw [List.length_set]; exact HOL.out
        have HOK2 : Hid (∀ y : Fx, ∀ k, a + 1 ≤ k → (o3.set a y)[k]? = oa[k]?) := fun y k hk => by rw [List.getElem?_set_ne (by omega)]; exact HOK.out k (by omega)
        generalize (o3[a]).name = nm3 at c0
        clear c1 f1 hm
        go_wp2_with fail
        go_roundg (oa.length - (a + 1))
        case measure => omega
        case rel => exact ⟨a + 1, _, by go_num, by omega, by omega, HOL2.out _, HOK2.out _, HRN⟩
  · have haz : ¬ (a : Int) < (oa.length : Int) := by omega
    have hk2 := HXS.out.kept
    have hba : Below A we wr := hk2.below (by have := HAB.out; omega) (Nat.le_refl _)
    have HIN := hid (HON.out wr (HAE.out.trans hba))
    have h1 : OwnXs B wr uc oc := by
      refine ⟨own_same HOB.out.1 fun k hk => ?_, fun x hx => own_same (HOB.out.2 x hx) fun k hk => ?_⟩
      · have := World.ownsRow.lt HOB.out.1 k hk
        exact hk2.block k this.2 (Or.inr this.1)
      · have := World.ownsRow.lt (HOB.out.2 x hx) k hk
        exact hk2.block k this.2 (Or.inr this.1)
    have HCI : Hid (IsXs wr uc oc ∧ IsXs wr uw ow) := ⟨h1.is, far_is HWE.out HFW.out fun k hk1 hk3 => hk2.block k hk3 (Or.inr hk1)⟩
    clear hk2 hba h1 HXS HOB HWE HFW HON HAE
    go_wp2_with fail
    go_loopg [130] e.length (fun g vj ws => ∃ j : Nat, vj = .int .i64 j ∧ j ≤ e.length ∧ e.length - j ≤ g ∧ Hid (InsP w Wc e (.slice pi e.length ci) ws) ∧ Hid (IsXs ws uc oc ∧ IsXs ws uw ow))
    case atStart => exact ⟨0, rfl, by omega, by omega, HIN, HCI⟩
    case round =>
      clear HIN HCI
      obtain ⟨j, rfl, hj, hgj, HIN, HCI⟩ := hrel
      by_cases hjl : j < e.length
      · have hjz : (j : Int) < (e.length : Int) := by omega
        have hj0 : (0 : Int) ≤ (j : Int) := by omega
        obtain ⟨gj, hpj, hcj, hmj⟩ := (HIN.out.each _ (List.getElem_mem hjl)).mark
        obtain ⟨p', c', he1, hdi, _⟩ := HIN.out.is
        injection he1 with he1 _ he2
        subst he1
        obtain ⟨bi, oi, rfl, hxi⟩ : ∃ b off, pi = some ⟨b, off, none⟩ ∧ XsAt wr b off e := by
          rcases hdi with h | h
          · rw [h] at hjl; simp at hjl
          · exact h
        have c1 := (hxi j hjl).2
        have hll := HT16.out _ (List.getElem_mem hjl)
        unfold Fx.sl at c1
        rw [hpj, hcj] at c1
        obtain ⟨l, hl0⟩ : ∃ l, (e[j]).txt.length = l := ⟨_, rfl⟩
        rw [hl0] at c1 hmj hll
        replace hmj : wr.cell? ⟨gj, l, none⟩ = some (.string ⟨#[109, 97, 114, 107]⟩) := hmj
        have l1 : (0 : Int) ≤ (l : Int) := by omega
        have l2 : (0 : Int) ≤ (l : Int) + 1 := by omega
        have l3 : (l : Int) < (l : Int) + 1 := by omega
        have l4 : (l : Int) + 1 ≤ (l : Int) + 2 := by omega
        clear hpj hcj hl0 hdi hxi he2
        go_wp2_with fail
        go_roundg (e.length - (j + 1))
        case measure => omega
        case rel => exact ⟨j + 1, by go_num, by omega, by omega, HIN, HCI⟩
      · have hjz : ¬ (j : Int) < (e.length : Int) := by omega
        have HSF := hid (sameF_any (.slice pi e.length ci) (.slice pv d.length cv) e d wr HIN.out.is (HV.out.kept HIN.out.bel) HFX.out HF.out)
        rw [show decide (e.map Fx.fld = d.map Fx.fld) = true from decide_eq_true HFE.out] at HSF
        go_wp2_with fail
        refine HSF.out.mono ?_
        rintro q w8 ⟨rfl, n8, rfl⟩
        have HSG := hid (sameF_any uc uw oc ow (wr.drewN n8) (HCI.out.1.kept (bel_drewN (Below.refl _ _) n8)) (HCI.out.2.kept (bel_drewN (Below.refl _ _) n8)) (ansA_fit MC.out) (ansA_fit MW.out))
        rw [show decide (oc.map Fx.fld = ow.map Fx.fld) = true from decide_eq_true (MC.out.trans MW.out.symm)] at HSG
        go_wp2_with fail
        refine HSG.out.mono ?_
        rintro q w9 ⟨rfl, n9, rfl⟩
        go_wp2_with fail
        go_ret
        exact ⟨rfl, bel_drewN HIN.out.bel (n8 + n9)⟩


end Go.Proofs.YtelcongbnmfegaaGreatDoor
