/-
  Texts of this claim, one behind the other: Hp8 Kp0 Re7 Hp9 Re3 Re6 Hpc.
-/
import Derived.Test.YtelcongbnmfegaaGreatDoorPc
import Derived.Test.YtelcongbnmfegaaGreatDoorPe
import Derived.Test.YtelcongbnmfegaaGreatDoorPa
import Derived.Test.YtelcongbnmfegaaGreatDoorPd
import Derived.Laws.CopyOwn
import Derived.Maps.AppendAt
import Derived.Test.YtelcongbnmfegaaGreatDoorPb
/-
  The contract of read: what a word says.
-/
namespace Go.Proofs.YtelcongbnmfegaaGreatDoor
open Go.RowKit Go.Lib

theorem ix_signK {c : UInt8} (h : isK c = true) : Lib.indexByte (⟨#[58, 43, 45, 126, 61]⟩ : ByteArray).data.toList c = kindN (c.toNat : Int) - 1 := by
  rcases kind_sign h with rfl | rfl | rfl | rfl | rfl <;> decide

theorem k_pos {c : UInt8} (h : isK c = true) : 1 ≤ kindN (c.toNat : Int) ∧ kindN (c.toNat : Int) ≤ 5 := by
  rcases kind_sign h with rfl | rfl | rfl | rfl | rfl <;> decide

/-- What a word with a sign says. -/
theorem editO_at {l : List UInt8} {i : Nat} (hi : i < l.length) (h1 : isK l[i] = true) (h2 : ∀ c ∈ l.take i, isK c = false) :
    editO l = if kindN (l[i].toNat : Int) = 4 then (if l.drop (i + 1) = [] then some (4, ⟨(l.take i).toArray⟩, ⟨#[]⟩) else none)
      else if Lib.hasPrefix (l.drop (i + 1)) [61] = true then (match readL ((l.drop (i + 1)).drop 1) with
        | none => none
        | some t => some (kindN (l[i].toNat : Int), ⟨(l.take i).toArray⟩, ⟨t.toArray⟩)) else none := by
  obtain ⟨e1, e2⟩ := k_split hi h2 h1
  unfold editO
  rw [e2]
  simp only
  rw [e1]
  by_cases h4 : kindN (l[i].toNat : Int) = 4
  · rw [if_pos h4, if_pos h4]
  · rw [if_neg h4, if_neg h4]
    cases l.drop (i + 1) with
    | nil => rfl
    | cons d r =>
      simp only [List.drop_succ_cons, List.drop_zero]
      by_cases hd : d = 61
      · subst hd
        rw [if_pos rfl, if_pos (by rfl)]
        cases readL r <;> rfl
      · rw [if_neg hd, if_neg]
        intro h
        simp [Lib.hasPrefix] at h
        exact hd h.symm

theorem FirstK.uniq {l : List UInt8} {a b : Int} (ha : FirstK l a) (hb : FirstK l b) : a = b := by
  rcases ha with ⟨rfl, h1⟩ | ⟨i, rfl, hi, h1, h2⟩
  · rcases hb with ⟨rfl, _⟩ | ⟨j, rfl, hj, h3, _⟩
    · rfl
    · rw [h1 _ (List.getElem_mem hj)] at h3; cases h3
  · rcases hb with ⟨rfl, h3⟩ | ⟨j, rfl, hj, h3, h4⟩
    · rw [h3 _ (List.getElem_mem hi)] at h1; cases h1
    · rcases Nat.lt_trichotomy i j with h | h | h
      · rw [h4 _ (List.mem_iff_getElem.2 ⟨i, by rw [List.length_take]; omega, by rw [List.getElem_take]⟩)] at h1; cases h1
      · rw [h]
      · rw [h2 _ (List.mem_iff_getElem.2 ⟨j, by rw [List.length_take]; omega, by rw [List.getElem_take]⟩)] at h3; cases h3

theorem ixanyK_at {s : ByteArray} {k : Int} (h : FirstK s.data.toList k) (w : World) (hs : s.size ≤ 4294967000) :
    Calls Tryz.prog 76 #[.string s, .string ⟨#[58, 43, 45, 126, 61]⟩] w fun e w' => e = .returned (.int .i64 k) ∧ Below w.heap.size w w' :=
  (ixany_any s w hs).mono fun _ _ ⟨⟨k', h1, h2⟩, h3⟩ => ⟨by rw [h1, h.uniq h2], h3⟩

/-- What read answers. -/
def editV (o : Option Ed) : Value := match o with
  | none => .tuple #[.agg #[.int .i64 0, .string ⟨#[]⟩, .string ⟨#[]⟩], .int .i64 4]
  | some x => .tuple #[.agg #[.int .i64 x.1, .string x.2.1, .string x.2.2], .int .i64 0]

set_option maxHeartbeats 4000000 in
set_option maxRecDepth 100000 in
theorem read_none (s : ByteArray) (w : World) (hs : s.size ≤ 4294967000) (hk : ∀ c ∈ s.data.toList, isK c = false) :
    Calls Tryz.prog 44 #[.string s] w fun e w' => e = .returned (.tuple #[.agg #[.int .i64 0, .string ⟨#[]⟩, .string ⟨#[]⟩], .int .i64 4]) ∧ Below w.heap.size w w' := by
  obtain ⟨W0, hW0⟩ : ∃ W0, w.alloc (.cells #[.int .i64 0, .string ⟨#[]⟩, .string ⟨#[]⟩] 46) = W0 := ⟨_, rfl⟩
  obtain ⟨R, hR⟩ : ∃ R, w.heap.size = R := ⟨_, rfl⟩
  have hb0 : Below R w W0 := by rw [← hW0, ← hR]; exact (Below.refl _ _).alloc (Nat.le_refl _) _
  have hx0 : BoxE W0 R (0, ⟨#[]⟩, ⟨#[]⟩) := by rw [← hW0, ← hR]; exact boxE_new w (0, ⟨#[]⟩, ⟨#[]⟩)
  have hRl : R < W0.heap.size := hx0.lt
  have HB0 := hid hb0
  have HX0 := hid hx0
  rw [hR]
  have HX := hid (ixanyK_at (Or.inl ⟨rfl, hk⟩) W0 hs)
  clear hb0 hx0 hk
  go_enter Tryz.func44, Tryz.ntmps44
  go_wp2_with fail
  refine HX.out.mono ?_
  rintro e w1 ⟨rfl, hb1⟩
  have hx1 := HX0.out.on hb1
  obtain ⟨k0, k1, k2⟩ := hx1.cells
  obtain ⟨f0, f1, f2⟩ := boxE_free hx1
  simp only at k0 k1 k2
  have HX1 := hid hx1
  have HB1 := hid (show Below R w w1 from HB0.out.trans (hb1.mono (Nat.le_of_lt hRl)))
  clear hx1 hb1
  go_wp2_with fail
  obtain ⟨j0, j1, j2⟩ := (boxE_put HX1.out (0, ⟨#[]⟩, ⟨#[]⟩)).cells
  simp only at j0 j1 j2
  exact bodyPost_ret (v := .tuple #[.agg #[.int .i64 0, .string ⟨#[]⟩, .string ⟨#[]⟩], .int .i64 4]) (by simp [results, Tryz.results44, go_sem, j0, j1, j2]) rfl ⟨rfl, belE_put HB1.out (Nat.le_refl _) (0, ⟨#[]⟩, ⟨#[]⟩)⟩

set_option maxHeartbeats 4000000 in
set_option maxRecDepth 100000 in
theorem read_sign (s : ByteArray) (w : World) (hp : PlainAt w) (hs : s.size ≤ 4294967000) (i : Nat) (hi : i < s.data.toList.length) (h1 : isK s.data.toList[i] = true) (h2 : ∀ c ∈ s.data.toList.take i, isK c = false) :
    Calls Tryz.prog 44 #[.string s] w fun e w' => e = .returned (editV (editO s.data.toList)) ∧ Below w.heap.size w w' := by
  obtain ⟨W0, hW0⟩ : ∃ W0, w.alloc (.cells #[.int .i64 0, .string ⟨#[]⟩, .string ⟨#[]⟩] 46) = W0 := ⟨_, rfl⟩
  obtain ⟨R, hR⟩ : ∃ R, w.heap.size = R := ⟨_, rfl⟩
  have hb0 : Below R w W0 := by rw [← hW0, ← hR]; exact (Below.refl _ _).alloc (Nat.le_refl _) _
  have hx0 : BoxE W0 R (0, ⟨#[]⟩, ⟨#[]⟩) := by rw [← hW0, ← hR]; exact boxE_new w (0, ⟨#[]⟩, ⟨#[]⟩)
  have hRl : R < W0.heap.size := hx0.lt
  have HP := hid (show PlainAt W0 from hp.on (by rw [hR]; exact hb0))
  have HB0 := hid hb0
  have HX0 := hid hx0
  obtain ⟨V, hV⟩ : ∃ V, editV (editO s.data.toList) = V := ⟨_, rfl⟩
  rw [hV]
  have HX := hid (ixanyK_at (Or.inr ⟨i, rfl, hi, h1, h2⟩) W0 hs)
  rw [editO_at hi h1 h2] at hV
  have his : i < s.size := by simpa using hi
  obtain ⟨c, hc⟩ : ∃ c, s[i]'his = c := ⟨_, rfl⟩
  have hcl : s.data.toList[i] = c := hc
  rw [hcl] at h1 hV
  have hix := ix_signK h1
  obtain ⟨o1, o2⟩ := k_pos h1
  obtain ⟨o, ho⟩ : ∃ o, kindN (c.toNat : Int) = o := ⟨_, rfl⟩
  rw [ho] at hix o1 o2 hV
  have hback : ((c.toNat : Int)).toNat.toUInt8 = c := by simp
  have HIX : Hid (∀ W, Calls Tryz.prog 77 #[.string ⟨#[58, 43, 45, 126, 61]⟩, .int .u8 c.toNat] W fun e w' => e = .returned (.int .i64 (o - 1)) ∧ W = w') := fun W => by
    have := Tryz.strings_IndexByte ⟨#[58, 43, 45, 126, 61]⟩ c.toNat W
    rw [hback, hix] at this
    exact this.mono fun e w' h => ⟨h.1, h.2.symm⟩
  have hw1 : IntKind.i64.wrap (1 + (o - 1)) = o := by rw [show 1 + (o - 1) = o by omega]; exact wrap_i64E _ (by omega) (by omega)
  have hiz : (0 : Int) ≤ i := by omega
  have hiz2 : (i : Int) < (s.size : Int) := by omega
  have hiz3 : (i : Int) + 1 ≤ (s.size : Int) := by omega
  have hiz4 : (0 : Int) ≤ (i : Int) + 1 := by omega
  have hiz5 : (i : Int) ≤ (s.size : Int) := by omega
  have hit : ((i : Int) + 1).toNat = i + 1 := by omega
  have hnn : ¬ ((i : Int) < 0) := by omega
  have HE := hid (ext_take s i)
  have HV := hid hV
  rw [hR]
  clear hp hb0 hx0 hcl hix ho hi h2 h1 hV
  go_enter Tryz.func44, Tryz.ntmps44
  go_wp2_with fail
  refine HX.out.mono ?_
  rintro e w1 ⟨rfl, hb1⟩
  have HB1 := hid hb1
  clear hb1
  go_wp2_with fail
  refine wp_region_held_drew (S := fun _ => True) (by kernel_rfl) trivial (fun hHeld => ?_)
  refine take_val (i := 0) (.string s) rfl (by kernel_rfl) (by kernel_rfl) (by kernel_rfl) (fun _ _ _ h => h) (by rfl) (fun w hSw => by go_simp) hHeld ?_
  simp only [Act.put, List.setIfInBounds_toArray, List.set_cons_zero, List.set_cons_succ]
  refine take_val (i := 1) (.int .i64 i) rfl (by kernel_rfl) (by kernel_rfl) (by kernel_rfl) (fun _ _ _ h => h) (by rfl) (fun w hSw => by go_simp) hHeld ?_
  simp only [Act.put, List.setIfInBounds_toArray, List.set_cons_zero, List.set_cons_succ]
  refine take_val (i := 2) (.int .u8 c.toNat) rfl (by kernel_rfl) (by kernel_rfl) (by kernel_rfl) (fun _ _ _ h => h) (by rfl) (fun w hSw => by go_simp) hHeld ?_
  simp only [Act.put, List.setIfInBounds_toArray, List.set_cons_zero, List.set_cons_succ]
  refine take_val (i := 5) (.string s) rfl (by kernel_rfl) (by kernel_rfl) (by kernel_rfl) (fun _ _ _ h => h) (by rfl) (fun w hSw => by go_simp) hHeld ?_
  simp only [Act.put, List.setIfInBounds_toArray, List.set_cons_zero, List.set_cons_succ]
  refine take_val (i := 6) (.int .i64 i) rfl (by kernel_rfl) (by kernel_rfl) (by kernel_rfl) (fun _ _ _ h => h) (by rfl) (fun w hSw => by go_simp) hHeld ?_
  simp only [Act.put, List.setIfInBounds_toArray, List.set_cons_zero, List.set_cons_succ]
  refine take_val (i := 7) (.string (s.extract 0 i)) rfl (by kernel_rfl) (by kernel_rfl) (by kernel_rfl) (fun _ _ _ h => h) (by rfl) (fun w hSw => by go_simp) hHeld ?_
  simp only [Act.put, List.setIfInBounds_toArray, List.set_cons_zero, List.set_cons_succ]
  refine wpAnyH_ready (rs := [3, 9]) (by kernel_rfl) (by simp) ?_
  refine AllReadyH.cons (at_drop0 rfl) (fun K hK => ?_) (AllReadyH.cons (at_drop0 rfl) (fun K hK => ?_) AllReadyH.nil)
  case' refine_1 =>
    rw [if_pos (by rfl)]
    go_simp
    refine (HIX.out _).mono ?_
    rintro e w2 ⟨rfl, rfl⟩
    go_wp2_with fail
    refine hK.out _ _ trivial (fun hHeld => ?_)
    clear hK K
    try simp only [Act.put, List.setIfInBounds_toArray, List.set_cons_zero, List.set_cons_succ]
    refine take_val (i := 4) (.int .i64 o) rfl (by kernel_rfl) (by kernel_rfl) (by kernel_rfl) (fun _ _ _ h => h) (by rfl) (fun w hSw => by go_simp) hHeld ?_
    simp only [Act.put, List.setIfInBounds_toArray, List.set_cons_zero, List.set_cons_succ]
    refine take_val (i := 8) (.agg #[.int .i64 o, .string (s.extract 0 i), .string ⟨#[]⟩]) rfl (by kernel_rfl) (by kernel_rfl) (by kernel_rfl) (fun _ _ _ h => h) (by rfl) (fun w hSw => by go_simp) hHeld ?_
    simp only [Act.put, List.setIfInBounds_toArray, List.set_cons_zero, List.set_cons_succ]
    refine wpAnyH_ready (rs := [9]) (by kernel_rfl) (by simp) ?_
    refine AllReadyH.cons (at_drop0 rfl) (fun K hK => ?_) AllReadyH.nil
    rw [if_pos (by rfl)]
    go_simp
    refine hK.out _ _ trivial (fun hHeld => ?_)
    clear hK K
    try simp only [Act.put, List.setIfInBounds_toArray, List.set_cons_zero, List.set_cons_succ]
    refine wpAnyH_ready (rs := [10]) (by kernel_rfl) (by simp) ?_
    refine AllReadyH.cons (at_drop0 rfl) (fun K hK => ?_) AllReadyH.nil
    rw [if_pos (by rfl)]
    go_simp
    refine hK.out _ _ trivial (fun hHeld => ?_)
    clear hK K
    try simp only [Act.put, List.setIfInBounds_toArray, List.set_cons_zero, List.set_cons_succ]
    refine wpAnyH_done (by kernel_rfl) ?_ _
  case' refine_2 =>
    rw [if_pos (by rfl)]
    go_simp
    refine hK.out _ _ trivial (fun hHeld => ?_)
    clear hK K
    try simp only [Act.put, List.setIfInBounds_toArray, List.set_cons_zero, List.set_cons_succ]
    refine wpAnyH_ready (rs := [3]) (by kernel_rfl) (by simp) ?_
    refine AllReadyH.cons (at_drop0 rfl) (fun K hK => ?_) AllReadyH.nil
    rw [if_pos (by rfl)]
    go_simp
    refine (HIX.out _).mono ?_
    rintro e w2 ⟨rfl, rfl⟩
    go_wp2_with fail
    refine hK.out _ _ trivial (fun hHeld => ?_)
    clear hK K
    try simp only [Act.put, List.setIfInBounds_toArray, List.set_cons_zero, List.set_cons_succ]
    refine take_val (i := 4) (.int .i64 o) rfl (by kernel_rfl) (by kernel_rfl) (by kernel_rfl) (fun _ _ _ h => h) (by rfl) (fun w hSw => by go_simp) hHeld ?_
    simp only [Act.put, List.setIfInBounds_toArray, List.set_cons_zero, List.set_cons_succ]
    refine take_val (i := 8) (.agg #[.int .i64 o, .string (s.extract 0 i), .string ⟨#[]⟩]) rfl (by kernel_rfl) (by kernel_rfl) (by kernel_rfl) (fun _ _ _ h => h) (by rfl) (fun w hSw => by go_simp) hHeld ?_
    simp only [Act.put, List.setIfInBounds_toArray, List.set_cons_zero, List.set_cons_succ]
    refine wpAnyH_ready (rs := [10]) (by kernel_rfl) (by simp) ?_
    refine AllReadyH.cons (at_drop0 rfl) (fun K hK => ?_) AllReadyH.nil
    rw [if_pos (by rfl)]
    go_simp
    refine hK.out _ _ trivial (fun hHeld => ?_)
    clear hK K
    try simp only [Act.put, List.setIfInBounds_toArray, List.set_cons_zero, List.set_cons_succ]
    refine wpAnyH_done (by kernel_rfl) ?_ _
  all_goals
    clear HIX HX
    obtain ⟨E, hE⟩ : ∃ E, w1.heap.size = E := ⟨_, rfl⟩
    have hsz1 := HB1.out.size
    have hRE : R ≠ E := by omega
    have hER : E ≠ R := by omega
    have HBW : Hid (Below W0.heap.size W0 (w1.alloc (.cells #[.int .i64 o, .string (s.extract 0 i), .string ⟨#[]⟩] 46)).drew) := (HB1.out.alloc hsz1 _).drew
    have HEB : Hid (BoxE (w1.alloc (.cells #[.int .i64 o, .string (s.extract 0 i), .string ⟨#[]⟩] 46)).drew E (o, s.extract 0 i, ⟨#[]⟩)) := by rw [← hE]; exact boxE_new w1 (o, s.extract 0 i, ⟨#[]⟩)
    obtain ⟨W, hW⟩ : ∃ W, (w1.alloc (.cells #[.int .i64 o, .string (s.extract 0 i), .string ⟨#[]⟩] 46)).drew = W := ⟨_, rfl⟩
    rw [hW] at HBW HEB
    rw [hE]
    have hx1 := HX0.out.on HBW.out
    obtain ⟨k0, k1, k2⟩ := hx1.cells
    obtain ⟨f0, f1, f2⟩ := boxE_free hx1
    obtain ⟨y0, y1, y2⟩ := HEB.out.cells
    obtain ⟨z0, z1, z2⟩ := boxE_free HEB.out
    simp only at k0 k1 k2 y0 y1 y2
    have HX1 := hid hx1
    have HRW : Hid (Below R w W) := HB0.out.trans (HBW.out.mono (Nat.le_of_lt hRl))
    clear hx1
    have hcd : (s.extract (i + 1) s.size).data.toList = s.data.toList.drop (i + 1) := ext_drop s (i + 1)
    by_cases h4 : o = 4
    · have hkb : (o == 4) = true := by rw [h4]; rfl
      have hvv := HV.out
      rw [if_pos h4] at hvv
      by_cases hL : s.data.toList.drop (i + 1) = []
      · have hbe : (s.extract (i + 1) s.size).toList.isEmpty = true := by rw [Lib.toList_data, hcd, hL]; rfl
        have HO : Hid (V = .tuple #[.agg #[.int .i64 o, .string (s.extract 0 i), .string ⟨#[]⟩], .int .i64 0]) := by
          show _ = _
          rw [← hvv, if_pos hL, h4, HE.out]
          rfl
        clear hvv hL hcd h4
        go_wp2_with fail
        obtain ⟨j0, j1, j2⟩ := (boxE_put HX1.out (o, s.extract 0 i, ⟨#[]⟩)).cells
        simp only at j0 j1 j2
        exact bodyPost_ret (v := .tuple #[.agg #[.int .i64 o, .string (s.extract 0 i), .string ⟨#[]⟩], .int .i64 0]) (by simp [results, Tryz.results44, go_sem, j0, j1, j2]) rfl ⟨by rw [HO.out], belE_put HRW.out (Nat.le_refl _) (o, s.extract 0 i, ⟨#[]⟩)⟩
      · have hbe : (s.extract (i + 1) s.size).toList.isEmpty = false := by
          rw [Lib.toList_data, hcd]
          cases hq : s.data.toList.drop (i + 1) with
          | nil => exact absurd hq hL
          | cons _ _ => rfl
        have HO : Hid (V = .tuple #[.agg #[.int .i64 0, .string ⟨#[]⟩, .string ⟨#[]⟩], .int .i64 4]) := by
          show _ = _
          rw [← hvv, if_neg hL]
          rfl
        clear hvv hL hcd h4
        go_wp2_with fail
        obtain ⟨j0, j1, j2⟩ := (boxE_put HX1.out (0, ⟨#[]⟩, ⟨#[]⟩)).cells
        simp only at j0 j1 j2
        exact bodyPost_ret (v := .tuple #[.agg #[.int .i64 0, .string ⟨#[]⟩, .string ⟨#[]⟩], .int .i64 4]) (by simp [results, Tryz.results44, go_sem, j0, j1, j2]) rfl ⟨by rw [HO.out], belE_put HRW.out (Nat.le_refl _) (0, ⟨#[]⟩, ⟨#[]⟩)⟩
    · have hkb : (o == 4) = false := beq_eq_false_iff_ne.2 h4
      have hvv := HV.out
      rw [if_neg h4] at hvv
      have hcp := Tryz.strings_CutPrefix (s.extract (i + 1) s.size) ⟨#[61]⟩ W
      rw [hcd] at hcp
      obtain ⟨wr, hwr⟩ : ∃ wr : ByteArray, ⟨(Lib.trimPrefix (s.data.toList.drop (i + 1)) [61]).toArray⟩ = wr := ⟨_, rfl⟩
      have hwrl : wr.data.toList = Lib.trimPrefix (s.data.toList.drop (i + 1)) [61] := by rw [← hwr]
      have hwrs : wr.size ≤ s.size := by
        have e1 : wr.size = wr.data.toList.length := by simp
        rw [e1, hwrl]
        have e2 : (Lib.trimPrefix (s.data.toList.drop (i + 1)) [61]).length ≤ (s.data.toList.drop (i + 1)).length := by
          unfold Lib.trimPrefix
          split
          · rw [List.length_drop]; exact Nat.sub_le _ _
          · exact Nat.le_refl _
        have e3 : (s.data.toList.drop (i + 1)).length ≤ s.data.toList.length := by simp
        have e4 : s.data.toList.length = s.size := by simp
        omega
      have hrd := read_any wr W (HP.out.on HBW.out) (by omega)
      have HKE : Hid (∀ W2, Below W.heap.size W W2 → (BoxE W2 E (o, s.extract 0 i, ⟨#[]⟩) ∧ BoxE W2 R (0, ⟨#[]⟩, ⟨#[]⟩)) ∧ Below R w W2) := fun W2 h => ⟨⟨HEB.out.on h, HX1.out.on h⟩, HRW.out.trans (h.mono (by have := HBW.out.size; omega))⟩
      cases hpre : Lib.hasPrefix (s.data.toList.drop (i + 1)) [61] with
      | false =>
        have HO : Hid (V = .tuple #[.agg #[.int .i64 0, .string ⟨#[]⟩, .string ⟨#[]⟩], .int .i64 4]) := by
          show _ = _
          rw [← hvv, if_neg (by rw [hpre]; decide)]
          rfl
        have HCP : Hid (Calls Tryz.prog 78 #[.string (s.extract (i + 1) s.size), .string ⟨#[61]⟩] W fun e w' => e = .returned (.tuple #[.string wr, .bool false]) ∧ W = w') := hcp.mono fun e w' h => ⟨by rw [h.1, ← hwr, ← hpre], h.2.symm⟩
        have HRD : Hid (Calls Tryz.prog 79 #[.string wr] W fun e w' => ∃ t k, e = .returned (.tuple #[.string t, .int .i64 k]) ∧ Below W.heap.size W w') := hrd.mono fun e w' h => by
          cases hr : readL wr.data.toList with
          | none => rw [hr] at h; exact ⟨_, _, h.1, h.2⟩
          | some t => rw [hr] at h; exact ⟨_, _, h.1, h.2⟩
        clear hvv hcd h4 hcp hwr hwrl hwrs hrd hpre k0 k1 k2 f0 f1 f2
        go_wp2_with fail
        refine HCP.out.mono ?_
        rintro e w3 ⟨rfl, rfl⟩
        go_wp2_with fail
        refine HRD.out.mono ?_
        rintro e w4 ⟨t, k, rfl, hb4⟩
        obtain ⟨⟨hbE, hbR⟩, hbw⟩ := HKE.out _ hb4
        obtain ⟨k0, k1, k2⟩ := hbR.cells
        obtain ⟨f0, f1, f2⟩ := boxE_free hbR
        simp only at k0 k1 k2
        have HXR := hid hbR
        have HBR := hid hbw
        clear hb4 hbE hbR hbw
        go_wp2_with fail
        obtain ⟨j0, j1, j2⟩ := (boxE_put HXR.out (0, ⟨#[]⟩, ⟨#[]⟩)).cells
        simp only at j0 j1 j2
        exact bodyPost_ret (v := .tuple #[.agg #[.int .i64 0, .string ⟨#[]⟩, .string ⟨#[]⟩], .int .i64 4]) (by simp [results, Tryz.results44, go_sem, j0, j1, j2]) rfl ⟨by rw [HO.out], belE_put HBR.out (Nat.le_refl _) (0, ⟨#[]⟩, ⟨#[]⟩)⟩
      | true =>
        have HCP : Hid (Calls Tryz.prog 78 #[.string (s.extract (i + 1) s.size), .string ⟨#[61]⟩] W fun e w' => e = .returned (.tuple #[.string wr, .bool true]) ∧ W = w') := hcp.mono fun e w' h => ⟨by rw [h.1, ← hwr, ← hpre], h.2.symm⟩
        have hdr : wr.data.toList = (s.data.toList.drop (i + 1)).drop 1 := by
          rw [hwrl]
          unfold Lib.trimPrefix
          rw [if_pos hpre]
          rfl
        rw [if_pos hpre, ← hdr] at hvv
        cases hr : readL wr.data.toList with
        | none =>
          rw [hr] at hrd hvv
          have HO : Hid (V = .tuple #[.agg #[.int .i64 0, .string ⟨#[]⟩, .string ⟨#[]⟩], .int .i64 4]) := hvv.symm
          have HRD : Hid (Calls Tryz.prog 79 #[.string wr] W fun e w' => e = .returned (.tuple #[.string ⟨#[]⟩, .int .i64 4]) ∧ Below W.heap.size W w') := hrd
          clear hvv hcd h4 hcp hwr hwrl hwrs hrd hpre k0 k1 k2 f0 f1 f2 hdr hr
          go_wp2_with fail
          refine HCP.out.mono ?_
          rintro e w3 ⟨rfl, rfl⟩
          go_wp2_with fail
          refine HRD.out.mono ?_
          rintro e w4 ⟨rfl, hb4⟩
          obtain ⟨⟨hbE, hbR⟩, hbw⟩ := HKE.out _ hb4
          obtain ⟨k0, k1, k2⟩ := hbR.cells
          obtain ⟨f0, f1, f2⟩ := boxE_free hbR
          simp only at k0 k1 k2
          have HXR := hid hbR
          have HBR := hid hbw
          clear hb4 hbE hbR hbw
          go_wp2_with fail
          obtain ⟨j0, j1, j2⟩ := (boxE_put HXR.out (0, ⟨#[]⟩, ⟨#[]⟩)).cells
          simp only at j0 j1 j2
          exact bodyPost_ret (v := .tuple #[.agg #[.int .i64 0, .string ⟨#[]⟩, .string ⟨#[]⟩], .int .i64 4]) (by simp [results, Tryz.results44, go_sem, j0, j1, j2]) rfl ⟨by rw [HO.out], belE_put HBR.out (Nat.le_refl _) (0, ⟨#[]⟩, ⟨#[]⟩)⟩
        | some t =>
          rw [hr] at hrd hvv
          have HO : Hid (V = .tuple #[.agg #[.int .i64 o, .string (s.extract 0 i), .string ⟨t.toArray⟩], .int .i64 0]) := by
            show _ = _
            rw [← hvv, HE.out]
            rfl
          have HRD : Hid (Calls Tryz.prog 79 #[.string wr] W fun e w' => e = .returned (.tuple #[.string ⟨t.toArray⟩, .int .i64 0]) ∧ Below W.heap.size W w') := hrd
          clear hvv hcd h4 hcp hwr hwrl hwrs hrd hpre k0 k1 k2 f0 f1 f2 hdr hr
          go_wp2_with fail
          refine HCP.out.mono ?_
          rintro e w3 ⟨rfl, rfl⟩
          go_wp2_with fail
          refine HRD.out.mono ?_
          rintro e w4 ⟨rfl, hb4⟩
          obtain ⟨⟨hbE, hbR⟩, hbw⟩ := HKE.out _ hb4
          have hbE2 := boxE_text hbE ⟨t.toArray⟩
          have hbR2 : BoxE (w4.setCell ⟨E, 2, none⟩ (.string ⟨t.toArray⟩)) R (0, ⟨#[]⟩, ⟨#[]⟩) := (Below.heap_setCell w4 _ _ _ hRE).trans hbR
          obtain ⟨y0, y1, y2⟩ := hbE.cells
          obtain ⟨z0, z1, z2⟩ := boxE_free hbE
          obtain ⟨x0, x1, x2⟩ := hbE2.cells
          obtain ⟨k0, k1, k2⟩ := hbR2.cells
          obtain ⟨f0, f1, f2⟩ := boxE_free hbR2
          simp only at k0 k1 k2 y0 y1 y2 x0 x1 x2
          have HXR := hid hbR2
          have HBR : Hid (Below R w (w4.setCell ⟨E, 2, none⟩ (.string ⟨t.toArray⟩))) := hbw.setCell (p := ⟨E, 2, none⟩) (by show R ≤ E; omega) _
          clear hb4 hbE hbE2 hbR hbR2 hbw
          obtain ⟨W5, hW5⟩ : ∃ W5, w4.setCell ⟨E, 2, none⟩ (.string ⟨t.toArray⟩) = W5 := ⟨_, rfl⟩
          rw [hW5] at HXR HBR k0 k1 k2 f0 f1 f2 x0 x1 x2
          go_wp2_with fail
          obtain ⟨j0, j1, j2⟩ := (boxE_put HXR.out (o, s.extract 0 i, ⟨t.toArray⟩)).cells
          simp only at j0 j1 j2
          exact bodyPost_ret (v := .tuple #[.agg #[.int .i64 o, .string (s.extract 0 i), .string ⟨t.toArray⟩], .int .i64 0]) (by simp [results, Tryz.results44, go_sem, j0, j1, j2]) rfl ⟨by rw [HO.out], belE_put HBR.out (Nat.le_refl _) (o, s.extract 0 i, ⟨t.toArray⟩)⟩

theorem read_edit (s : ByteArray) (w : World) (hp : PlainAt w) (hs : s.size ≤ 4294967000) :
    Calls Tryz.prog 44 #[.string s] w fun e w' => e = .returned (editV (editO s.data.toList)) ∧ Below w.heap.size w w' := by
  rcases indexAny_first s.data.toList with ⟨_, h⟩ | ⟨i, _, hi, h1, h2⟩
  · have := read_none s w hs h
    rw [k_none h]
    exact this
  · exact read_sign s w hp hs i hi h1 h2

end Go.Proofs.YtelcongbnmfegaaGreatDoor

/-
  What ValueKeeps makes and writes: rows with spare room, and fields that are written over.
-/
namespace Go.Proofs.YtelcongbnmfegaaGreatDoor
open Go.RowKit Go.Lib

theorem Tryz.infoTs : (Tryz.prog.info? 42).map (fun i => (i.zero, i.size, i.bytes)) = some (some (.slice none 0 0), 1, 24) := by kernel_rfl

def markA : ByteArray := ⟨#[109, 97, 114, 107]⟩

/-- The texts of x lie in a block of their own at or behind N, with two cells of spare room: the mark, and nothing. -/
def RoomAt (N : Nat) (W : World) (x : Fx) : Prop :=
  ∃ g, x.p = some ⟨g, 0, none⟩ ∧ x.cap = x.txt.length + 2 ∧ N ≤ g ∧ W.heap[g]? = some (.cells (x.txt.map Value.string ++ [Value.string markA, Value.string ⟨#[]⟩]).toArray 9 (0, 0))

theorem RoomAt.on {N : Nat} {W W' : World} {x : Fx} (h : RoomAt N W x) (hb : Below W.heap.size W W') : RoomAt N W' x := by
  obtain ⟨g, h1, h2, h3, h4⟩ := h
  exact ⟨g, h1, h2, h3, (hb.block g (Array.getElem?_eq_some_iff.1 h4).1).trans h4⟩

theorem RoomAt.else {N m0 : Nat} {W W' : World} {x : Fx} {e : TypeId} {size : Nat} {u : Value} {m : Nat} {ys : List Value} (h : RoomAt N W x) (hu : W.ownsRow m0 e size u m ys) (hne : e ≠ 9) (hg : W.grownBy W' u.ownBlock) : RoomAt N W' x := by
  obtain ⟨g, h1, h2, h3, h4⟩ := h
  refine ⟨g, h1, h2, h3, (hg.block g (Array.getElem?_eq_some_iff.1 h4).1 fun e2 => ?_).trans h4⟩
  obtain ⟨cs', h5⟩ := own_type hu e2.symm
  rw [h4] at h5
  injection h5 with h5
  injection h5 with _ h5
  exact hne h5.symm

theorem RoomAt.at {N : Nat} {W : World} {x : Fx} (h : RoomAt N W x) : x.at W := by
  obtain ⟨g, h1, _, _, h4⟩ := h
  refine Or.inr ⟨g, 0, h1, fun i hi => ?_⟩
  rw [Nat.zero_add, cell_of_row W g i _ _ _ h4]
  simp [List.getElem?_append, hi]

theorem RoomAt.mark {N : Nat} {W : World} {x : Fx} (h : RoomAt N W x) : ∃ g, x.p = some ⟨g, 0, none⟩ ∧ x.cap = x.txt.length + 2 ∧ W.cell? ⟨g, x.txt.length, none⟩ = some (.string markA) := by
  obtain ⟨g, h1, h2, _, h4⟩ := h
  refine ⟨g, h1, h2, ?_⟩
  rw [cell_of_row W g _ _ _ _ h4]
  simp

/-- What the first loop has made. -/
structure Ins (w : World) (e : List Fx) (vi vr : Value) (W : World) : Prop where
  row : RowX w.heap.size W vi e
  rooms : W.ownsRow w.heap.size 42 1 vr e.length (e.map Fx.sl)
  each : ∀ x ∈ e, RoomAt w.heap.size W x
  bel : Below w.heap.size w W

theorem Ins.on {w W W' : World} {e : List Fx} {vi vr : Value} (h : Ins w e vi vr W) (hb : Below W.heap.size W W') : Ins w e vi vr W' :=
  ⟨own_on h.row hb, own_on h.rooms hb, fun x hx => (h.each x hx).on hb, h.bel.trans (hb.mono h.bel.size)⟩

theorem Ins.is {w W : World} {e : List Fx} {vi vr : Value} (h : Ins w e vi vr W) : IsXs W vi e := h.row.is fun x hx => (h.each x hx).at

/-- The cells of a new room, the texts copied and the mark set. -/
theorem room_cells (ts : List ByteArray) : ((splice (List.replicate (ts.length + 2) (Value.string ⟨#[]⟩)) 0 (ts.map Value.string)).toArray.setIfInBounds ts.length (.string markA)) = (ts.map Value.string ++ [Value.string markA, Value.string ⟨#[]⟩]).toArray := by
  apply Array.toList_inj.1
  rw [Array.toList_setIfInBounds]
  simp only [splice, List.take_zero, List.nil_append, List.length_map, Nat.zero_add, List.drop_replicate]
  rw [show ts.length + 2 - ts.length = 2 by omega, List.set_append_right _ _ (by simp)]
  simp

theorem made_strs (n : Nat) : madeCells (Value.string ⟨#[]⟩).cells ((n + 2) * 1) = (List.replicate (n + 2) (Value.string ⟨#[]⟩)).toArray := by
  apply Array.toList_inj.1
  apply List.ext_getElem
  · simp [madeCells]
  · intro i h1 h2
    simp [madeCells, Value.cells]
    rw [Nat.mod_one]
    rfl

/-- What Norm answers, its rows apart. -/
def NJPost (w : World) (fs : List Fld) (e : Ending) (w' : World) : Prop :=
  (∃ u o, e = .returned (.tuple #[u, .int .i64 (codeF fs)]) ∧ OwnJ w.heap.size w' u o ∧ o.map Fx.fld = ansF fs) ∧ Below w.heap.size w w'

theorem own_noneJ (N : Nat) (w : World) : OwnJ N w (.slice none 0 0) [] := ⟨own_none _ _, List.Pairwise.nil⟩

theorem norm_apart (v : Value) (d : List Fx) (w : World) (hv : IsXs w v d) (hf : FitX d) (hl : d.length * 40 ≤ 140737488355328) (htot : totF (d.map Fx.fld) * 16 ≤ 140737488355328) :
    Calls Tryz.prog 24 #[v] w fun e w' => NJPost w (d.map Fx.fld) e w' := by
  refine (norm_any v d w hv hf hl htot).mono fun e w' h => ⟨?_, h.2⟩
  rcases h.ans.plain with ⟨h1, rfl⟩ | ⟨h1, ⟨h2, rfl⟩ | ⟨h2, h3, rfl⟩ | ⟨h2, h3, u, o, rfl, ho, hm⟩⟩
  · have hc : codeF (d.map Fx.fld) = 2 := by unfold codeF; rw [h1]; rfl
    exact ⟨_, [], by rw [hc], own_noneJ _ _, by unfold ansF; rw [hc]; rfl⟩
  · have hc : codeF (d.map Fx.fld) = 3 := by unfold codeF; rw [h1, h2]; rfl
    exact ⟨_, [], by rw [hc], own_noneJ _ _, by unfold ansF; rw [hc]; rfl⟩
  · have hc : codeF (d.map Fx.fld) = 5 := by unfold codeF; rw [h1, h2, h3]; rfl
    exact ⟨_, [], by rw [hc], own_noneJ _ _, by unfold ansF; rw [hc]; rfl⟩
  · have hc : codeF (d.map Fx.fld) = 0 := by unfold codeF; rw [h1, h2, h3]; rfl
    exact ⟨u, o, by rw [hc], ho, by unfold ansF; rw [hc]; exact hm⟩

theorem ans_small {fs : List Fld} : ∀ f ∈ ansF fs, f.2.length ≤ 8 := by
  unfold ansF
  split
  · rename_i h
    exact fun f hf => (fits_parts (may_fits (codeF_zero h).2.2 f hf)).2.2.1
  · intro f hf; simp at hf

end Go.Proofs.YtelcongbnmfegaaGreatDoor

/-
  The contracts of the reference's ParseWords and Parse of edits.
-/
namespace Go.Proofs.YtelcongbnmfegaaGreatDoor
open Go.RowKit Go.Lib

def fitEd (x : Ed) : Prop := x.2.1.size ≤ 1000000000000 ∧ x.2.2.size ≤ 1000000000000 ∧ 0 ≤ x.1 ∧ x.1 ≤ 5

def EWPost (w : World) (o : Option (List Ed)) (e : Ending) (w' : World) : Prop :=
  (∃ u, e = .returned (.tuple #[u, .int .i64 (codeL o)]) ∧ KE.Own w.heap.size w' u (ansL o)) ∧ Below w.heap.size w w'

def EWSt (w : World) (ls : List (List UInt8)) (i : Nat) (v : Value) (wr : World) : Prop :=
  ∃ d, KE.Own w.heap.size wr v d ∧ editsW (ls.take i) = some d ∧ d.length = i ∧ (∀ x ∈ d, fitEd x) ∧ Below w.heap.size w wr

theorem ew_no {w w' : World} {o : Option (List Ed)} {e : Ending} (ho : o = none) (he : e = .returned (.tuple #[.slice none 0 0, .int .i64 4])) (hb : Below w.heap.size w w') : EWPost w o e w' := by
  subst ho
  exact ⟨⟨_, he, KE.own_nil _ _⟩, hb⟩

theorem ew_of {w w' : World} {o : Option (List Ed)} {d : List Ed} {u : Value} {e : Ending} (ho : o = some d) (he : e = .returned (.tuple #[u, .int .i64 (mayE d)])) (hw : KE.Own w.heap.size w' u (if mayE d = 0 then d else [])) (hb : Below w.heap.size w w') : EWPost w o e w' := by
  subst ho
  exact ⟨⟨_, he, hw⟩, hb⟩

set_option maxHeartbeats 16000000 in
set_option maxRecDepth 100000 in
theorem rpwE_any (p : Option Addr) (cap : Nat) (ws : List ByteArray) (w : World) (ht : TxtAt w p ws) (hl : ws.length ≤ 1000000000000) (hs : ∀ x ∈ ws, x.size ≤ 1000000000000) :
    Calls Tryz.prog 45 #[.slice p ws.length cap] w fun e w' => EWPost w (editsW (ws.map (·.data.toList))) e w' := by
  obtain ⟨j0, hj0, hy0, hy1, hy2⟩ := info_parts Tryz.infoEd
  have mixed := Tryz.mixed
  have HJ := hid hj0
  have HT := hid ht
  have HS := hid hs
  clear hj0 ht hs
  have ST0 : Hid (EWSt w (ws.map (·.data.toList)) 0 (.slice none 0 0) w) := ⟨[], KE.own_nil _ _, by simp [editsW], rfl, fun x hx => by simp at hx, Below.refl _ _⟩
  go_enter Tryz.func45, Tryz.ntmps45
  go_wp2_with fail
  go_loopg [4, 5] ws.length (fun g vv vi wr => ∃ i : Nat, vi = .int .i64 i ∧ i ≤ ws.length ∧ ws.length - i ≤ g ∧ EWSt w (ws.map (·.data.toList)) i vv wr)
  case atStart => exact ⟨0, rfl, by omega, by omega, ST0.out⟩
  case round =>
  clear ST0
  obtain ⟨i, rfl, hi, hgk, d, hox, hfw, hdl, hft, hb⟩ := hrel
  have HOX := hid hox
  have HFW := hid hfw
  have HDL := hid hdl
  have HFT := hid hft
  have HB := hid hb
  have hsz := hb.size
  clear hox hfw hdl hft
  by_cases hlt : i < ws.length
  · have hltz : (i : Int) < (ws.length : Int) := by omega
    have hiz : (0 : Int) ≤ (i : Int) := by omega
    rcases HT.out with hn | ⟨b, off, rfl, hc⟩
    · rw [hn] at hlt; simp at hlt
    have c0 : wr.cell? ⟨b, off + i, none⟩ = some (.string ws[i]) := (hb.cell (p := ⟨b, off + i, none⟩) (cell_block (hc i hlt))).trans (hc i hlt)
    have hts := HS.out _ (List.getElem_mem hlt)
    have hsplit : ws.map (·.data.toList) = (ws.map (·.data.toList)).take i ++ (ws[i]).data.toList :: (ws.map (·.data.toList)).drop (i + 1) := by
      have h1 : i < (ws.map (·.data.toList)).length := by simpa using hlt
      have h2 : (ws.map (·.data.toList))[i] = (ws[i]).data.toList := by simp
      rw [← h2, ← List.drop_eq_getElem_cons h1, List.take_append_drop]
    have htk : (ws.map (·.data.toList)).take (i + 1) = (ws.map (·.data.toList)).take i ++ [(ws[i]).data.toList] := by
      rw [List.take_succ_eq_append_getElem (by simpa using hlt)]; simp
    obtain ⟨x, hx⟩ : ∃ x, ws[i] = x := ⟨_, rfl⟩
    rw [hx] at c0 hts hsplit htk
    have HSPL := hid hsplit
    have HTK := hid htk
    have hxl : x.data.toList.length = x.size := by simp
    have HXL := hid hxl
    have HNO : Hid (editO x.data.toList = none → editsW (ws.map (·.data.toList)) = none) := fun h => by rw [HSPL.out]; exact editsW_no h
    clear hx hsplit htk hc hb hxl HSPL
    go_wp2_with fail
    go_loopg [7] x.size (fun g vk ws => ∃ k : Nat, vk = .int .i64 k ∧ k ≤ x.size ∧ x.size - k ≤ g ∧ wr = ws ∧ Hid (∀ d ∈ x.data.toList.take k, isK d = false))
    case atStart => exact ⟨0, rfl, by omega, by omega, rfl, (show Hid _ from by simp [Hid])⟩
    case round =>
    obtain ⟨A, rfl, hA, hgA, rfl, HNA⟩ := hrel
    by_cases hAl : A < x.size
    · have hAz : (A : Int) < (x.size : Int) := by omega
      have hAd : decide ((A : Int) < (x.size : Int)) = true := decide_eq_true hAz
      have hA0 : (0 : Int) ≤ (A : Int) := by omega
      have hAll : A < x.data.toList.length := by rw [HXL.out]; exact hAl
      have hby : x.data.toList[A] = x[A] := rfl
      have HED : Hid (isK x[A] = true → editO x.data.toList = if okW x A (kindN (x[A].toNat : Int)) then (match readL (x.data.toList.drop (A + (signS (kindN (x[A].toNat : Int))).size)) with
          | none => none
          | some t => some (kindN (x[A].toNat : Int), ⟨(x.data.toList.take A).toArray⟩, ⟨t.toArray⟩)) else none) := fun h => edit_at hAl HNA.out h
      obtain ⟨c, hc⟩ : ∃ c, x[A] = c := ⟨_, rfl⟩
      rw [hc] at hby HED
      have HBY := hid hby
      clear hby
      have hor := kindN_range (c.toNat : Int)
      have HIS : Hid (isK c = (kindN (c.toNat : Int) != 0)) := rfl
      have HOC : Hid (∀ W, Calls Tryz.prog 80 #[.int .u8 (c.toNat : Int)] W fun e w' => e = .returned (.int .i64 (kindN (c.toNat : Int))) ∧ W = w') := fun W => rkind_any (c.toNat : Int) W
      obtain ⟨o, ho⟩ : ∃ o, kindN (c.toNat : Int) = o := ⟨_, rfl⟩
      rw [ho] at HIS HOC hor HED
      clear ho
      obtain ⟨ho0, ho5⟩ := hor
      by_cases hz : o = 0
      · have HN2 : Hid (∀ d ∈ x.data.toList.take (A + 1), isK d = false) := by
          intro d hd
          rw [List.take_succ_eq_append_getElem hAll, List.mem_append, List.mem_singleton, HBY.out] at hd
          rcases hd with h | h
          · exact HNA.out d h
          · rw [h, HIS.out, hz]; rfl
        clear HED HIS
        subst hz
        go_wp2_with (first | (go_at_call 80; refine (HOC.out _).mono ?_; rintro e w2 ⟨rfl, rfl⟩))
        go_roundg (x.size - (A + 1))
        case measure => omega
        case rel => exact ⟨A + 1, by go_num, by omega, by omega, rfl, HN2⟩
      · have HE2 := hid (HED.out (by rw [HIS.out, bne_iff_ne]; exact hz))
        have hzb : (o == 0) = false := beq_eq_false_iff_ne.2 hz
        have hne : ((A : Int) == (x.size : Int)) = false := beq_eq_false_iff_ne.2 (by omega)
        have HG : Hid (∀ W, Calls Tryz.prog 41 #[.int .i64 o] W fun e w' => e = .returned (.string (signS o)) ∧ W = w') := fun W => (rsign_any o W).mono fun e w' h => ⟨h.1, h.2.symm⟩
        have hsg := sign_size o
        have HKW : Hid (okW x A o = (decide ((signS o).size ≤ x.size - A) && decide (x.extract A (A + (signS o).size) = signS o) && (decide (o ≠ 4) || decide (x.size - A ≤ 1)))) := rfl
        obtain ⟨sg, hsg2⟩ : ∃ sg, signS o = sg := ⟨_, rfl⟩
        rw [hsg2] at hsg HG HE2 HKW
        obtain ⟨hsg1, hsg0⟩ := hsg
        obtain ⟨OK, hOK⟩ : ∃ OK, okW x A o = OK := ⟨_, rfl⟩
        rw [hOK] at HE2 HKW
        obtain ⟨en, hen⟩ : ∃ en, A + sg.size = en := ⟨_, rfl⟩
        rw [hen] at HE2 HKW
        obtain ⟨m, hm⟩ : ∃ m, x.size - A = m := ⟨_, rfl⟩
        rw [hm] at HKW
        have HEN := hid hen
        have HM := hid hm
        have HW1 : Hid (IntKind.i64.wrap ((x.size : Int) - (A : Int)) = (m : Int)) := by show _ = _; rw [show (x.size : Int) - (A : Int) = (m : Int) by omega]; exact wrap_i64E _ (by omega) (by omega)
        have HW2 : Hid (IntKind.i64.wrap ((A : Int) + (sg.size : Int)) = (en : Int)) := by show _ = _; rw [show (A : Int) + (sg.size : Int) = (en : Int) by omega]; exact wrap_i64E _ (by omega) (by omega)
        have HW3 : Hid ((A : Int) + (sg.size : Int) = (en : Int)) := by show _ = _; omega
        have hen0 : (0 : Int) ≤ (en : Int) := by omega
        have hAen : (A : Int) ≤ (en : Int) := by omega
        clear HED HIS hz hOK hsg2 hen hm
        go_upto_region 13 with (first | (go_at_call 80; refine (HOC.out _).mono ?_; rintro e w2 ⟨rfl, rfl⟩) | (go_at_call 41; refine (HG.out _).mono ?_; rintro e w2 ⟨rfl, rfl⟩))
        go_cut [74] from 13 to 94 (fun v wx => v = .bool (!OK) ∧ ∃ n, wx = wr.drewN n)
        case first =>
          by_cases g1 : sg.size ≤ m
          · have dm : decide ((m : Int) < (sg.size : Int)) = false := decide_eq_false (by omega)
            have gn : ¬ m < sg.size := by omega
            have henx : (en : Int) ≤ (x.size : Int) := by have := HEN.out; have := HM.out; omega
            rw [decide_eq_true g1, Bool.true_and] at HKW
            by_cases g2 : x.extract A en = sg
            · have hse := seq_true g2
              rw [decide_eq_true g2, Bool.true_and] at HKW
              by_cases g3 : o = 4
              · have hk4 : (o == 4) = true := beq_iff_eq.2 g3
                by_cases g4 : m ≤ 1
                · have dm1 : decide ((1 : Int) < (m : Int)) = false := decide_eq_false (by omega)
                  have gm : ¬ 1 < m := by omega
                  have hOK : OK = true := by rw [HKW.out, decide_eq_true g4, Bool.or_true]
                  subst hOK
                  clear g1 g2 g3 g4 HKW
                  have hw1 := HW1.out
                  have hw2 := HW2.out
                  go_wp2_with fail
                  refine wp_region_held_drew (S := fun _ => True) (by kernel_rfl) trivial (fun hHeld => ?_)
                  refine take_val (i := 0) (.string x) rfl (by kernel_rfl) (by kernel_rfl) (by kernel_rfl) (fun _ _ _ h => h) (by rfl) (fun w hSw => by go_simp) hHeld ?_
                  simp only [Act.put, List.setIfInBounds_toArray, List.set_cons_zero, List.set_cons_succ]
                  refine take_val (i := 1) (.int .i64 x.size) rfl (by kernel_rfl) (by kernel_rfl) (by kernel_rfl) (fun _ _ _ h => h) (by rfl) (fun w hSw => by go_simp) hHeld ?_
                  simp only [Act.put, List.setIfInBounds_toArray, List.set_cons_zero, List.set_cons_succ]
                  refine take_val (i := 2) (.int .i64 A) rfl (by kernel_rfl) (by kernel_rfl) (by kernel_rfl) (fun _ _ _ h => h) (by rfl) (fun w hSw => by go_simp) hHeld ?_
                  simp only [Act.put, List.setIfInBounds_toArray, List.set_cons_zero, List.set_cons_succ]
                  refine take_val (i := 3) (.int .i64 m) rfl (by kernel_rfl) (by kernel_rfl) (by kernel_rfl) (fun _ _ _ h => h) (by rfl) (fun w hSw => by go_simp) hHeld ?_
                  simp only [Act.put, List.setIfInBounds_toArray, List.set_cons_zero, List.set_cons_succ]
                  refine take_val (i := 4) (.int .i64 sg.size) rfl (by kernel_rfl) (by kernel_rfl) (by kernel_rfl) (fun _ _ _ h => h) (by rfl) (fun w hSw => by go_simp) hHeld ?_
                  simp only [Act.put, List.setIfInBounds_toArray, List.set_cons_zero, List.set_cons_succ]
                  refine take_val (i := 5) (.bool false) rfl (by kernel_rfl) (by kernel_rfl) (by kernel_rfl) (fun _ _ _ h => h) (by rfl) (fun w hSw => by go_simp) hHeld ?_
                  simp only [Act.put, List.setIfInBounds_toArray, List.set_cons_zero, List.set_cons_succ]
                  refine take_val (i := 6) (.bool false) rfl (by kernel_rfl) (by kernel_rfl) (by kernel_rfl) (fun _ _ _ h => h) (by rfl) (fun w hSw => by go_simp) hHeld ?_
                  simp only [Act.put, List.setIfInBounds_toArray, List.set_cons_zero, List.set_cons_succ]
                  refine take_val (i := 7) (.string x) rfl (by kernel_rfl) (by kernel_rfl) (by kernel_rfl) (fun _ _ _ h => h) (by rfl) (fun w hSw => by go_simp) hHeld ?_
                  simp only [Act.put, List.setIfInBounds_toArray, List.set_cons_zero, List.set_cons_succ]
                  refine take_val (i := 8) (.int .i64 A) rfl (by kernel_rfl) (by kernel_rfl) (by kernel_rfl) (fun _ _ _ h => h) (by rfl) (fun w hSw => by go_simp) hHeld ?_
                  simp only [Act.put, List.setIfInBounds_toArray, List.set_cons_zero, List.set_cons_succ]
                  refine take_val (i := 9) (.int .i64 A) rfl (by kernel_rfl) (by kernel_rfl) (by kernel_rfl) (fun _ _ _ h => h) (by rfl) (fun w hSw => by go_simp) hHeld ?_
                  simp only [Act.put, List.setIfInBounds_toArray, List.set_cons_zero, List.set_cons_succ]
                  refine take_val (i := 10) (.int .i64 sg.size) rfl (by kernel_rfl) (by kernel_rfl) (by kernel_rfl) (fun _ _ _ h => h) (by rfl) (fun w hSw => by go_simp) hHeld ?_
                  simp only [Act.put, List.setIfInBounds_toArray, List.set_cons_zero, List.set_cons_succ]
                  refine take_val (i := 11) (.int .i64 en) rfl (by kernel_rfl) (by kernel_rfl) (by kernel_rfl) (fun _ _ _ h => h) (by rfl) (fun w hSw => by go_simp) hHeld ?_
                  simp only [Act.put, List.setIfInBounds_toArray, List.set_cons_zero, List.set_cons_succ]
                  refine take_val (i := 12) (.string (x.extract A en)) rfl (by kernel_rfl) (by kernel_rfl) (by kernel_rfl) (fun _ _ _ h => h) (by rfl) (fun w hSw => by go_simp) hHeld ?_
                  simp only [Act.put, List.setIfInBounds_toArray, List.set_cons_zero, List.set_cons_succ]
                  refine take_val (i := 13) (.int .i64 o) rfl (by kernel_rfl) (by kernel_rfl) (by kernel_rfl) (fun _ _ _ h => h) (by rfl) (fun w hSw => by go_simp) hHeld ?_
                  simp only [Act.put, List.setIfInBounds_toArray, List.set_cons_zero, List.set_cons_succ]
                  refine wpAnyH_ready (rs := [14]) (by kernel_rfl) (by simp) ?_
                  refine AllReadyH.cons (at_drop0 rfl) (fun K hK => ?_) AllReadyH.nil
                  rw [if_pos (by rfl)]
                  go_simp
                  refine (HG.out _).mono ?_
                  rintro e w2 ⟨rfl, rfl⟩
                  go_wp2_with fail
                  refine hK.out _ _ trivial (fun hHeld => ?_)
                  clear hK K
                  try simp only [Act.put, List.setIfInBounds_toArray, List.set_cons_zero, List.set_cons_succ]
                  refine take_val (i := 15) (.bool false) rfl (by kernel_rfl) (by kernel_rfl) (by kernel_rfl) (fun _ _ _ h => h) (by rfl) (fun w hSw => by go_simp) hHeld ?_
                  simp only [Act.put, List.setIfInBounds_toArray, List.set_cons_zero, List.set_cons_succ]
                  refine take_val (i := 16) (.bool false) rfl (by kernel_rfl) (by kernel_rfl) (by kernel_rfl) (fun _ _ _ h => h) (by rfl) (fun w hSw => by go_simp) hHeld ?_
                  simp only [Act.put, List.setIfInBounds_toArray, List.set_cons_zero, List.set_cons_succ]
                  refine take_val (i := 17) (.bool false) rfl (by kernel_rfl) (by kernel_rfl) (by kernel_rfl) (fun _ _ _ h => h) (by rfl) (fun w hSw => by go_simp) hHeld ?_
                  simp only [Act.put, List.setIfInBounds_toArray, List.set_cons_zero, List.set_cons_succ]
                  refine take_val (i := 18) (.int .i64 o) rfl (by kernel_rfl) (by kernel_rfl) (by kernel_rfl) (fun _ _ _ h => h) (by rfl) (fun w hSw => by go_simp) hHeld ?_
                  simp only [Act.put, List.setIfInBounds_toArray, List.set_cons_zero, List.set_cons_succ]
                  refine take_val (i := 19) (.bool true) rfl (by kernel_rfl) (by kernel_rfl) (by kernel_rfl) (fun _ _ _ h => h) (by rfl) (fun w hSw => by go_simp) hHeld ?_
                  simp only [Act.put, List.setIfInBounds_toArray, List.set_cons_zero, List.set_cons_succ]
                  refine take_val (i := 20) (.bool true) rfl (by kernel_rfl) (by kernel_rfl) (by kernel_rfl) (fun _ _ _ h => h) (by rfl) (fun w hSw => by go_simp) hHeld ?_
                  simp only [Act.put, List.setIfInBounds_toArray, List.set_cons_zero, List.set_cons_succ]
                  refine take_val (i := 21) (.string x) rfl (by kernel_rfl) (by kernel_rfl) (by kernel_rfl) (fun _ _ _ h => h) (by rfl) (fun w hSw => by go_simp) hHeld ?_
                  simp only [Act.put, List.setIfInBounds_toArray, List.set_cons_zero, List.set_cons_succ]
                  refine take_val (i := 22) (.int .i64 x.size) rfl (by kernel_rfl) (by kernel_rfl) (by kernel_rfl) (fun _ _ _ h => h) (by rfl) (fun w hSw => by go_simp) hHeld ?_
                  simp only [Act.put, List.setIfInBounds_toArray, List.set_cons_zero, List.set_cons_succ]
                  refine take_val (i := 23) (.int .i64 A) rfl (by kernel_rfl) (by kernel_rfl) (by kernel_rfl) (fun _ _ _ h => h) (by rfl) (fun w hSw => by go_simp) hHeld ?_
                  simp only [Act.put, List.setIfInBounds_toArray, List.set_cons_zero, List.set_cons_succ]
                  refine take_val (i := 24) (.int .i64 m) rfl (by kernel_rfl) (by kernel_rfl) (by kernel_rfl) (fun _ _ _ h => h) (by rfl) (fun w hSw => by go_simp) hHeld ?_
                  simp only [Act.put, List.setIfInBounds_toArray, List.set_cons_zero, List.set_cons_succ]
                  refine take_val (i := 25) (.bool false) rfl (by kernel_rfl) (by kernel_rfl) (by kernel_rfl) (fun _ _ _ h => h) (by rfl) (fun w hSw => by go_simp) hHeld ?_
                  simp only [Act.put, List.setIfInBounds_toArray, List.set_cons_zero, List.set_cons_succ]
                  refine take_val (i := 26) (.bool false) rfl (by kernel_rfl) (by kernel_rfl) (by kernel_rfl) (fun _ _ _ h => h) (by rfl) (fun w hSw => by go_simp) hHeld ?_
                  simp only [Act.put, List.setIfInBounds_toArray, List.set_cons_zero, List.set_cons_succ]
                  refine take_val (i := 27) (.bool false) rfl (by kernel_rfl) (by kernel_rfl) (by kernel_rfl) (fun _ _ _ h => h) (by rfl) (fun w hSw => by go_simp) hHeld ?_
                  simp only [Act.put, List.setIfInBounds_toArray, List.set_cons_zero, List.set_cons_succ]
                  refine wpAnyH_done (by kernel_rfl) ?_ _
                  go_wp2_with fail
                  go_meet
                  case rel => exact ⟨rfl, 1, rfl⟩
                · have dm1 : decide ((1 : Int) < (m : Int)) = true := decide_eq_true (by omega)
                  have gm : 1 < m := by omega
                  have hOK : OK = false := by rw [HKW.out, decide_eq_false g4, decide_eq_false (by simp [g3])]; rfl
                  subst hOK
                  clear g1 g2 g3 g4 HKW
                  have hw1 := HW1.out
                  have hw2 := HW2.out
                  go_wp2_with fail
                  refine wp_region_held_drew (S := fun _ => True) (by kernel_rfl) trivial (fun hHeld => ?_)
                  refine take_val (i := 0) (.string x) rfl (by kernel_rfl) (by kernel_rfl) (by kernel_rfl) (fun _ _ _ h => h) (by rfl) (fun w hSw => by go_simp) hHeld ?_
                  simp only [Act.put, List.setIfInBounds_toArray, List.set_cons_zero, List.set_cons_succ]
                  refine take_val (i := 1) (.int .i64 x.size) rfl (by kernel_rfl) (by kernel_rfl) (by kernel_rfl) (fun _ _ _ h => h) (by rfl) (fun w hSw => by go_simp) hHeld ?_
                  simp only [Act.put, List.setIfInBounds_toArray, List.set_cons_zero, List.set_cons_succ]
                  refine take_val (i := 2) (.int .i64 A) rfl (by kernel_rfl) (by kernel_rfl) (by kernel_rfl) (fun _ _ _ h => h) (by rfl) (fun w hSw => by go_simp) hHeld ?_
                  simp only [Act.put, List.setIfInBounds_toArray, List.set_cons_zero, List.set_cons_succ]
                  refine take_val (i := 3) (.int .i64 m) rfl (by kernel_rfl) (by kernel_rfl) (by kernel_rfl) (fun _ _ _ h => h) (by rfl) (fun w hSw => by go_simp) hHeld ?_
                  simp only [Act.put, List.setIfInBounds_toArray, List.set_cons_zero, List.set_cons_succ]
                  refine take_val (i := 4) (.int .i64 sg.size) rfl (by kernel_rfl) (by kernel_rfl) (by kernel_rfl) (fun _ _ _ h => h) (by rfl) (fun w hSw => by go_simp) hHeld ?_
                  simp only [Act.put, List.setIfInBounds_toArray, List.set_cons_zero, List.set_cons_succ]
                  refine take_val (i := 5) (.bool false) rfl (by kernel_rfl) (by kernel_rfl) (by kernel_rfl) (fun _ _ _ h => h) (by rfl) (fun w hSw => by go_simp) hHeld ?_
                  simp only [Act.put, List.setIfInBounds_toArray, List.set_cons_zero, List.set_cons_succ]
                  refine take_val (i := 6) (.bool false) rfl (by kernel_rfl) (by kernel_rfl) (by kernel_rfl) (fun _ _ _ h => h) (by rfl) (fun w hSw => by go_simp) hHeld ?_
                  simp only [Act.put, List.setIfInBounds_toArray, List.set_cons_zero, List.set_cons_succ]
                  refine take_val (i := 7) (.string x) rfl (by kernel_rfl) (by kernel_rfl) (by kernel_rfl) (fun _ _ _ h => h) (by rfl) (fun w hSw => by go_simp) hHeld ?_
                  simp only [Act.put, List.setIfInBounds_toArray, List.set_cons_zero, List.set_cons_succ]
                  refine take_val (i := 8) (.int .i64 A) rfl (by kernel_rfl) (by kernel_rfl) (by kernel_rfl) (fun _ _ _ h => h) (by rfl) (fun w hSw => by go_simp) hHeld ?_
                  simp only [Act.put, List.setIfInBounds_toArray, List.set_cons_zero, List.set_cons_succ]
                  refine take_val (i := 9) (.int .i64 A) rfl (by kernel_rfl) (by kernel_rfl) (by kernel_rfl) (fun _ _ _ h => h) (by rfl) (fun w hSw => by go_simp) hHeld ?_
                  simp only [Act.put, List.setIfInBounds_toArray, List.set_cons_zero, List.set_cons_succ]
                  refine take_val (i := 10) (.int .i64 sg.size) rfl (by kernel_rfl) (by kernel_rfl) (by kernel_rfl) (fun _ _ _ h => h) (by rfl) (fun w hSw => by go_simp) hHeld ?_
                  simp only [Act.put, List.setIfInBounds_toArray, List.set_cons_zero, List.set_cons_succ]
                  refine take_val (i := 11) (.int .i64 en) rfl (by kernel_rfl) (by kernel_rfl) (by kernel_rfl) (fun _ _ _ h => h) (by rfl) (fun w hSw => by go_simp) hHeld ?_
                  simp only [Act.put, List.setIfInBounds_toArray, List.set_cons_zero, List.set_cons_succ]
                  refine take_val (i := 12) (.string (x.extract A en)) rfl (by kernel_rfl) (by kernel_rfl) (by kernel_rfl) (fun _ _ _ h => h) (by rfl) (fun w hSw => by go_simp) hHeld ?_
                  simp only [Act.put, List.setIfInBounds_toArray, List.set_cons_zero, List.set_cons_succ]
                  refine take_val (i := 13) (.int .i64 o) rfl (by kernel_rfl) (by kernel_rfl) (by kernel_rfl) (fun _ _ _ h => h) (by rfl) (fun w hSw => by go_simp) hHeld ?_
                  simp only [Act.put, List.setIfInBounds_toArray, List.set_cons_zero, List.set_cons_succ]
                  refine wpAnyH_ready (rs := [14]) (by kernel_rfl) (by simp) ?_
                  refine AllReadyH.cons (at_drop0 rfl) (fun K hK => ?_) AllReadyH.nil
                  rw [if_pos (by rfl)]
                  go_simp
                  refine (HG.out _).mono ?_
                  rintro e w2 ⟨rfl, rfl⟩
                  go_wp2_with fail
                  refine hK.out _ _ trivial (fun hHeld => ?_)
                  clear hK K
                  try simp only [Act.put, List.setIfInBounds_toArray, List.set_cons_zero, List.set_cons_succ]
                  refine take_val (i := 15) (.bool false) rfl (by kernel_rfl) (by kernel_rfl) (by kernel_rfl) (fun _ _ _ h => h) (by rfl) (fun w hSw => by go_simp) hHeld ?_
                  simp only [Act.put, List.setIfInBounds_toArray, List.set_cons_zero, List.set_cons_succ]
                  refine take_val (i := 16) (.bool false) rfl (by kernel_rfl) (by kernel_rfl) (by kernel_rfl) (fun _ _ _ h => h) (by rfl) (fun w hSw => by go_simp) hHeld ?_
                  simp only [Act.put, List.setIfInBounds_toArray, List.set_cons_zero, List.set_cons_succ]
                  refine take_val (i := 17) (.bool false) rfl (by kernel_rfl) (by kernel_rfl) (by kernel_rfl) (fun _ _ _ h => h) (by rfl) (fun w hSw => by go_simp) hHeld ?_
                  simp only [Act.put, List.setIfInBounds_toArray, List.set_cons_zero, List.set_cons_succ]
                  refine take_val (i := 18) (.int .i64 o) rfl (by kernel_rfl) (by kernel_rfl) (by kernel_rfl) (fun _ _ _ h => h) (by rfl) (fun w hSw => by go_simp) hHeld ?_
                  simp only [Act.put, List.setIfInBounds_toArray, List.set_cons_zero, List.set_cons_succ]
                  refine take_val (i := 19) (.bool true) rfl (by kernel_rfl) (by kernel_rfl) (by kernel_rfl) (fun _ _ _ h => h) (by rfl) (fun w hSw => by go_simp) hHeld ?_
                  simp only [Act.put, List.setIfInBounds_toArray, List.set_cons_zero, List.set_cons_succ]
                  refine take_val (i := 20) (.bool true) rfl (by kernel_rfl) (by kernel_rfl) (by kernel_rfl) (fun _ _ _ h => h) (by rfl) (fun w hSw => by go_simp) hHeld ?_
                  simp only [Act.put, List.setIfInBounds_toArray, List.set_cons_zero, List.set_cons_succ]
                  refine take_val (i := 21) (.string x) rfl (by kernel_rfl) (by kernel_rfl) (by kernel_rfl) (fun _ _ _ h => h) (by rfl) (fun w hSw => by go_simp) hHeld ?_
                  simp only [Act.put, List.setIfInBounds_toArray, List.set_cons_zero, List.set_cons_succ]
                  refine take_val (i := 22) (.int .i64 x.size) rfl (by kernel_rfl) (by kernel_rfl) (by kernel_rfl) (fun _ _ _ h => h) (by rfl) (fun w hSw => by go_simp) hHeld ?_
                  simp only [Act.put, List.setIfInBounds_toArray, List.set_cons_zero, List.set_cons_succ]
                  refine take_val (i := 23) (.int .i64 A) rfl (by kernel_rfl) (by kernel_rfl) (by kernel_rfl) (fun _ _ _ h => h) (by rfl) (fun w hSw => by go_simp) hHeld ?_
                  simp only [Act.put, List.setIfInBounds_toArray, List.set_cons_zero, List.set_cons_succ]
                  refine take_val (i := 24) (.int .i64 m) rfl (by kernel_rfl) (by kernel_rfl) (by kernel_rfl) (fun _ _ _ h => h) (by rfl) (fun w hSw => by go_simp) hHeld ?_
                  simp only [Act.put, List.setIfInBounds_toArray, List.set_cons_zero, List.set_cons_succ]
                  refine take_val (i := 25) (.bool true) rfl (by kernel_rfl) (by kernel_rfl) (by kernel_rfl) (fun _ _ _ h => h) (by rfl) (fun w hSw => by go_simp) hHeld ?_
                  simp only [Act.put, List.setIfInBounds_toArray, List.set_cons_zero, List.set_cons_succ]
                  refine take_val (i := 26) (.bool true) rfl (by kernel_rfl) (by kernel_rfl) (by kernel_rfl) (fun _ _ _ h => h) (by rfl) (fun w hSw => by go_simp) hHeld ?_
                  simp only [Act.put, List.setIfInBounds_toArray, List.set_cons_zero, List.set_cons_succ]
                  refine take_val (i := 27) (.bool true) rfl (by kernel_rfl) (by kernel_rfl) (by kernel_rfl) (fun _ _ _ h => h) (by rfl) (fun w hSw => by go_simp) hHeld ?_
                  simp only [Act.put, List.setIfInBounds_toArray, List.set_cons_zero, List.set_cons_succ]
                  refine wpAnyH_done (by kernel_rfl) ?_ _
                  go_wp2_with fail
                  go_meet
                  case rel => exact ⟨rfl, 1, rfl⟩
              · have hk4 : (o == 4) = false := beq_eq_false_iff_ne.2 g3
                have hOK : OK = true := by rw [HKW.out, decide_eq_true g3, Bool.true_or]
                subst hOK
                clear g1 g2 g3 HKW
                have hw1 := HW1.out
                have hw2 := HW2.out
                go_wp2_with fail
                refine wp_region_held_drew (S := fun _ => True) (by kernel_rfl) trivial (fun hHeld => ?_)
                refine take_val (i := 0) (.string x) rfl (by kernel_rfl) (by kernel_rfl) (by kernel_rfl) (fun _ _ _ h => h) (by rfl) (fun w hSw => by go_simp) hHeld ?_
                simp only [Act.put, List.setIfInBounds_toArray, List.set_cons_zero, List.set_cons_succ]
                refine take_val (i := 1) (.int .i64 x.size) rfl (by kernel_rfl) (by kernel_rfl) (by kernel_rfl) (fun _ _ _ h => h) (by rfl) (fun w hSw => by go_simp) hHeld ?_
                simp only [Act.put, List.setIfInBounds_toArray, List.set_cons_zero, List.set_cons_succ]
                refine take_val (i := 2) (.int .i64 A) rfl (by kernel_rfl) (by kernel_rfl) (by kernel_rfl) (fun _ _ _ h => h) (by rfl) (fun w hSw => by go_simp) hHeld ?_
                simp only [Act.put, List.setIfInBounds_toArray, List.set_cons_zero, List.set_cons_succ]
                refine take_val (i := 3) (.int .i64 m) rfl (by kernel_rfl) (by kernel_rfl) (by kernel_rfl) (fun _ _ _ h => h) (by rfl) (fun w hSw => by go_simp) hHeld ?_
                simp only [Act.put, List.setIfInBounds_toArray, List.set_cons_zero, List.set_cons_succ]
                refine take_val (i := 4) (.int .i64 sg.size) rfl (by kernel_rfl) (by kernel_rfl) (by kernel_rfl) (fun _ _ _ h => h) (by rfl) (fun w hSw => by go_simp) hHeld ?_
                simp only [Act.put, List.setIfInBounds_toArray, List.set_cons_zero, List.set_cons_succ]
                refine take_val (i := 5) (.bool false) rfl (by kernel_rfl) (by kernel_rfl) (by kernel_rfl) (fun _ _ _ h => h) (by rfl) (fun w hSw => by go_simp) hHeld ?_
                simp only [Act.put, List.setIfInBounds_toArray, List.set_cons_zero, List.set_cons_succ]
                refine take_val (i := 6) (.bool false) rfl (by kernel_rfl) (by kernel_rfl) (by kernel_rfl) (fun _ _ _ h => h) (by rfl) (fun w hSw => by go_simp) hHeld ?_
                simp only [Act.put, List.setIfInBounds_toArray, List.set_cons_zero, List.set_cons_succ]
                refine take_val (i := 7) (.string x) rfl (by kernel_rfl) (by kernel_rfl) (by kernel_rfl) (fun _ _ _ h => h) (by rfl) (fun w hSw => by go_simp) hHeld ?_
                simp only [Act.put, List.setIfInBounds_toArray, List.set_cons_zero, List.set_cons_succ]
                refine take_val (i := 8) (.int .i64 A) rfl (by kernel_rfl) (by kernel_rfl) (by kernel_rfl) (fun _ _ _ h => h) (by rfl) (fun w hSw => by go_simp) hHeld ?_
                simp only [Act.put, List.setIfInBounds_toArray, List.set_cons_zero, List.set_cons_succ]
                refine take_val (i := 9) (.int .i64 A) rfl (by kernel_rfl) (by kernel_rfl) (by kernel_rfl) (fun _ _ _ h => h) (by rfl) (fun w hSw => by go_simp) hHeld ?_
                simp only [Act.put, List.setIfInBounds_toArray, List.set_cons_zero, List.set_cons_succ]
                refine take_val (i := 10) (.int .i64 sg.size) rfl (by kernel_rfl) (by kernel_rfl) (by kernel_rfl) (fun _ _ _ h => h) (by rfl) (fun w hSw => by go_simp) hHeld ?_
                simp only [Act.put, List.setIfInBounds_toArray, List.set_cons_zero, List.set_cons_succ]
                refine take_val (i := 11) (.int .i64 en) rfl (by kernel_rfl) (by kernel_rfl) (by kernel_rfl) (fun _ _ _ h => h) (by rfl) (fun w hSw => by go_simp) hHeld ?_
                simp only [Act.put, List.setIfInBounds_toArray, List.set_cons_zero, List.set_cons_succ]
                refine take_val (i := 12) (.string (x.extract A en)) rfl (by kernel_rfl) (by kernel_rfl) (by kernel_rfl) (fun _ _ _ h => h) (by rfl) (fun w hSw => by go_simp) hHeld ?_
                simp only [Act.put, List.setIfInBounds_toArray, List.set_cons_zero, List.set_cons_succ]
                refine take_val (i := 13) (.int .i64 o) rfl (by kernel_rfl) (by kernel_rfl) (by kernel_rfl) (fun _ _ _ h => h) (by rfl) (fun w hSw => by go_simp) hHeld ?_
                simp only [Act.put, List.setIfInBounds_toArray, List.set_cons_zero, List.set_cons_succ]
                refine wpAnyH_ready (rs := [14]) (by kernel_rfl) (by simp) ?_
                refine AllReadyH.cons (at_drop0 rfl) (fun K hK => ?_) AllReadyH.nil
                rw [if_pos (by rfl)]
                go_simp
                refine (HG.out _).mono ?_
                rintro e w2 ⟨rfl, rfl⟩
                go_wp2_with fail
                refine hK.out _ _ trivial (fun hHeld => ?_)
                clear hK K
                try simp only [Act.put, List.setIfInBounds_toArray, List.set_cons_zero, List.set_cons_succ]
                refine take_val (i := 15) (.bool false) rfl (by kernel_rfl) (by kernel_rfl) (by kernel_rfl) (fun _ _ _ h => h) (by rfl) (fun w hSw => by go_simp) hHeld ?_
                simp only [Act.put, List.setIfInBounds_toArray, List.set_cons_zero, List.set_cons_succ]
                refine take_val (i := 16) (.bool false) rfl (by kernel_rfl) (by kernel_rfl) (by kernel_rfl) (fun _ _ _ h => h) (by rfl) (fun w hSw => by go_simp) hHeld ?_
                simp only [Act.put, List.setIfInBounds_toArray, List.set_cons_zero, List.set_cons_succ]
                refine take_val (i := 17) (.bool false) rfl (by kernel_rfl) (by kernel_rfl) (by kernel_rfl) (fun _ _ _ h => h) (by rfl) (fun w hSw => by go_simp) hHeld ?_
                simp only [Act.put, List.setIfInBounds_toArray, List.set_cons_zero, List.set_cons_succ]
                refine take_val (i := 18) (.int .i64 o) rfl (by kernel_rfl) (by kernel_rfl) (by kernel_rfl) (fun _ _ _ h => h) (by rfl) (fun w hSw => by go_simp) hHeld ?_
                simp only [Act.put, List.setIfInBounds_toArray, List.set_cons_zero, List.set_cons_succ]
                refine take_val (i := 19) (.bool false) rfl (by kernel_rfl) (by kernel_rfl) (by kernel_rfl) (fun _ _ _ h => h) (by rfl) (fun w hSw => by go_simp) hHeld ?_
                simp only [Act.put, List.setIfInBounds_toArray, List.set_cons_zero, List.set_cons_succ]
                refine take_val (i := 20) (.bool false) rfl (by kernel_rfl) (by kernel_rfl) (by kernel_rfl) (fun _ _ _ h => h) (by rfl) (fun w hSw => by go_simp) hHeld ?_
                simp only [Act.put, List.setIfInBounds_toArray, List.set_cons_zero, List.set_cons_succ]
                refine take_not (i := 21) rfl (by kernel_rfl) (by kernel_rfl) (by kernel_rfl) (fun _ _ _ h => h) (by rfl) hHeld ?_
                simp only [Act.put, List.setIfInBounds_toArray, List.set_cons_zero, List.set_cons_succ]
                refine take_not (i := 22) rfl (by kernel_rfl) (by kernel_rfl) (by kernel_rfl) (fun _ _ _ h => h) (by rfl) hHeld ?_
                simp only [Act.put, List.setIfInBounds_toArray, List.set_cons_zero, List.set_cons_succ]
                refine take_not (i := 23) rfl (by kernel_rfl) (by kernel_rfl) (by kernel_rfl) (fun _ _ _ h => h) (by rfl) hHeld ?_
                simp only [Act.put, List.setIfInBounds_toArray, List.set_cons_zero, List.set_cons_succ]
                refine take_not (i := 24) rfl (by kernel_rfl) (by kernel_rfl) (by kernel_rfl) (fun _ _ _ h => h) (by rfl) hHeld ?_
                simp only [Act.put, List.setIfInBounds_toArray, List.set_cons_zero, List.set_cons_succ]
                refine take_not (i := 25) rfl (by kernel_rfl) (by kernel_rfl) (by kernel_rfl) (fun _ _ _ h => h) (by rfl) hHeld ?_
                simp only [Act.put, List.setIfInBounds_toArray, List.set_cons_zero, List.set_cons_succ]
                refine take_val (i := 26) (.bool false) rfl (by kernel_rfl) (by kernel_rfl) (by kernel_rfl) (fun _ _ _ h => h) (by rfl) (fun w hSw => by go_simp) hHeld ?_
                simp only [Act.put, List.setIfInBounds_toArray, List.set_cons_zero, List.set_cons_succ]
                refine take_val (i := 27) (.bool false) rfl (by kernel_rfl) (by kernel_rfl) (by kernel_rfl) (fun _ _ _ h => h) (by rfl) (fun w hSw => by go_simp) hHeld ?_
                simp only [Act.put, List.setIfInBounds_toArray, List.set_cons_zero, List.set_cons_succ]
                refine wpAnyH_done (by kernel_rfl) ?_ _
                go_wp2_with fail
                go_meet
                case rel => exact ⟨rfl, 1, rfl⟩
            · have hse := seq_false g2
              have hOK : OK = false := by rw [HKW.out, decide_eq_false g2, Bool.false_and]
              subst hOK
              clear g1 g2 HKW
              have hw1 := HW1.out
              have hw2 := HW2.out
              go_wp2_with fail
              refine wp_region_held_drew (S := fun _ => True) (by kernel_rfl) trivial (fun hHeld => ?_)
              refine take_val (i := 0) (.string x) rfl (by kernel_rfl) (by kernel_rfl) (by kernel_rfl) (fun _ _ _ h => h) (by rfl) (fun w hSw => by go_simp) hHeld ?_
              simp only [Act.put, List.setIfInBounds_toArray, List.set_cons_zero, List.set_cons_succ]
              refine take_val (i := 1) (.int .i64 x.size) rfl (by kernel_rfl) (by kernel_rfl) (by kernel_rfl) (fun _ _ _ h => h) (by rfl) (fun w hSw => by go_simp) hHeld ?_
              simp only [Act.put, List.setIfInBounds_toArray, List.set_cons_zero, List.set_cons_succ]
              refine take_val (i := 2) (.int .i64 A) rfl (by kernel_rfl) (by kernel_rfl) (by kernel_rfl) (fun _ _ _ h => h) (by rfl) (fun w hSw => by go_simp) hHeld ?_
              simp only [Act.put, List.setIfInBounds_toArray, List.set_cons_zero, List.set_cons_succ]
              refine take_val (i := 3) (.int .i64 m) rfl (by kernel_rfl) (by kernel_rfl) (by kernel_rfl) (fun _ _ _ h => h) (by rfl) (fun w hSw => by go_simp) hHeld ?_
              simp only [Act.put, List.setIfInBounds_toArray, List.set_cons_zero, List.set_cons_succ]
              refine take_val (i := 4) (.int .i64 sg.size) rfl (by kernel_rfl) (by kernel_rfl) (by kernel_rfl) (fun _ _ _ h => h) (by rfl) (fun w hSw => by go_simp) hHeld ?_
              simp only [Act.put, List.setIfInBounds_toArray, List.set_cons_zero, List.set_cons_succ]
              refine take_val (i := 5) (.bool false) rfl (by kernel_rfl) (by kernel_rfl) (by kernel_rfl) (fun _ _ _ h => h) (by rfl) (fun w hSw => by go_simp) hHeld ?_
              simp only [Act.put, List.setIfInBounds_toArray, List.set_cons_zero, List.set_cons_succ]
              refine take_val (i := 6) (.bool false) rfl (by kernel_rfl) (by kernel_rfl) (by kernel_rfl) (fun _ _ _ h => h) (by rfl) (fun w hSw => by go_simp) hHeld ?_
              simp only [Act.put, List.setIfInBounds_toArray, List.set_cons_zero, List.set_cons_succ]
              refine take_val (i := 7) (.string x) rfl (by kernel_rfl) (by kernel_rfl) (by kernel_rfl) (fun _ _ _ h => h) (by rfl) (fun w hSw => by go_simp) hHeld ?_
              simp only [Act.put, List.setIfInBounds_toArray, List.set_cons_zero, List.set_cons_succ]
              refine take_val (i := 8) (.int .i64 A) rfl (by kernel_rfl) (by kernel_rfl) (by kernel_rfl) (fun _ _ _ h => h) (by rfl) (fun w hSw => by go_simp) hHeld ?_
              simp only [Act.put, List.setIfInBounds_toArray, List.set_cons_zero, List.set_cons_succ]
              refine take_val (i := 9) (.int .i64 A) rfl (by kernel_rfl) (by kernel_rfl) (by kernel_rfl) (fun _ _ _ h => h) (by rfl) (fun w hSw => by go_simp) hHeld ?_
              simp only [Act.put, List.setIfInBounds_toArray, List.set_cons_zero, List.set_cons_succ]
              refine take_val (i := 10) (.int .i64 sg.size) rfl (by kernel_rfl) (by kernel_rfl) (by kernel_rfl) (fun _ _ _ h => h) (by rfl) (fun w hSw => by go_simp) hHeld ?_
              simp only [Act.put, List.setIfInBounds_toArray, List.set_cons_zero, List.set_cons_succ]
              refine take_val (i := 11) (.int .i64 en) rfl (by kernel_rfl) (by kernel_rfl) (by kernel_rfl) (fun _ _ _ h => h) (by rfl) (fun w hSw => by go_simp) hHeld ?_
              simp only [Act.put, List.setIfInBounds_toArray, List.set_cons_zero, List.set_cons_succ]
              refine take_val (i := 12) (.string (x.extract A en)) rfl (by kernel_rfl) (by kernel_rfl) (by kernel_rfl) (fun _ _ _ h => h) (by rfl) (fun w hSw => by go_simp) hHeld ?_
              simp only [Act.put, List.setIfInBounds_toArray, List.set_cons_zero, List.set_cons_succ]
              refine take_val (i := 13) (.int .i64 o) rfl (by kernel_rfl) (by kernel_rfl) (by kernel_rfl) (fun _ _ _ h => h) (by rfl) (fun w hSw => by go_simp) hHeld ?_
              simp only [Act.put, List.setIfInBounds_toArray, List.set_cons_zero, List.set_cons_succ]
              refine wpAnyH_ready (rs := [14]) (by kernel_rfl) (by simp) ?_
              refine AllReadyH.cons (at_drop0 rfl) (fun K hK => ?_) AllReadyH.nil
              rw [if_pos (by rfl)]
              go_simp
              refine (HG.out _).mono ?_
              rintro e w2 ⟨rfl, rfl⟩
              go_wp2_with fail
              refine hK.out _ _ trivial (fun hHeld => ?_)
              clear hK K
              try simp only [Act.put, List.setIfInBounds_toArray, List.set_cons_zero, List.set_cons_succ]
              refine take_val (i := 15) (.bool true) rfl (by kernel_rfl) (by kernel_rfl) (by kernel_rfl) (fun _ _ _ h => h) (by rfl) (fun w hSw => by go_simp) hHeld ?_
              simp only [Act.put, List.setIfInBounds_toArray, List.set_cons_zero, List.set_cons_succ]
              refine take_val (i := 16) (.bool true) rfl (by kernel_rfl) (by kernel_rfl) (by kernel_rfl) (fun _ _ _ h => h) (by rfl) (fun w hSw => by go_simp) hHeld ?_
              simp only [Act.put, List.setIfInBounds_toArray, List.set_cons_zero, List.set_cons_succ]
              refine take_val (i := 17) (.bool true) rfl (by kernel_rfl) (by kernel_rfl) (by kernel_rfl) (fun _ _ _ h => h) (by rfl) (fun w hSw => by go_simp) hHeld ?_
              simp only [Act.put, List.setIfInBounds_toArray, List.set_cons_zero, List.set_cons_succ]
              refine take_not (i := 18) rfl (by kernel_rfl) (by kernel_rfl) (by kernel_rfl) (fun _ _ _ h => h) (by rfl) hHeld ?_
              simp only [Act.put, List.setIfInBounds_toArray, List.set_cons_zero, List.set_cons_succ]
              refine take_not (i := 19) rfl (by kernel_rfl) (by kernel_rfl) (by kernel_rfl) (fun _ _ _ h => h) (by rfl) hHeld ?_
              simp only [Act.put, List.setIfInBounds_toArray, List.set_cons_zero, List.set_cons_succ]
              refine take_not (i := 20) rfl (by kernel_rfl) (by kernel_rfl) (by kernel_rfl) (fun _ _ _ h => h) (by rfl) hHeld ?_
              simp only [Act.put, List.setIfInBounds_toArray, List.set_cons_zero, List.set_cons_succ]
              refine take_not (i := 21) rfl (by kernel_rfl) (by kernel_rfl) (by kernel_rfl) (fun _ _ _ h => h) (by rfl) hHeld ?_
              simp only [Act.put, List.setIfInBounds_toArray, List.set_cons_zero, List.set_cons_succ]
              refine take_not (i := 22) rfl (by kernel_rfl) (by kernel_rfl) (by kernel_rfl) (fun _ _ _ h => h) (by rfl) hHeld ?_
              simp only [Act.put, List.setIfInBounds_toArray, List.set_cons_zero, List.set_cons_succ]
              refine take_not (i := 23) rfl (by kernel_rfl) (by kernel_rfl) (by kernel_rfl) (fun _ _ _ h => h) (by rfl) hHeld ?_
              simp only [Act.put, List.setIfInBounds_toArray, List.set_cons_zero, List.set_cons_succ]
              refine take_not (i := 24) rfl (by kernel_rfl) (by kernel_rfl) (by kernel_rfl) (fun _ _ _ h => h) (by rfl) hHeld ?_
              simp only [Act.put, List.setIfInBounds_toArray, List.set_cons_zero, List.set_cons_succ]
              refine take_not (i := 25) rfl (by kernel_rfl) (by kernel_rfl) (by kernel_rfl) (fun _ _ _ h => h) (by rfl) hHeld ?_
              simp only [Act.put, List.setIfInBounds_toArray, List.set_cons_zero, List.set_cons_succ]
              refine take_not (i := 26) rfl (by kernel_rfl) (by kernel_rfl) (by kernel_rfl) (fun _ _ _ h => h) (by rfl) hHeld ?_
              simp only [Act.put, List.setIfInBounds_toArray, List.set_cons_zero, List.set_cons_succ]
              refine take_val (i := 27) (.bool true) rfl (by kernel_rfl) (by kernel_rfl) (by kernel_rfl) (fun _ _ _ h => h) (by rfl) (fun w hSw => by go_simp) hHeld ?_
              simp only [Act.put, List.setIfInBounds_toArray, List.set_cons_zero, List.set_cons_succ]
              refine wpAnyH_done (by kernel_rfl) ?_ _
              go_wp2_with fail
              go_meet
              case rel => exact ⟨rfl, 1, rfl⟩
          · have dm : decide ((m : Int) < (sg.size : Int)) = true := decide_eq_true (by omega)
            have gn : m < sg.size := by omega
            have hOK : OK = false := by rw [HKW.out, decide_eq_false g1, Bool.false_and, Bool.false_and]
            subst hOK
            clear g1 HKW
            have hw1 := HW1.out
            have hw2 := HW2.out
            go_wp2_with fail
            refine wp_region_held_drew (S := fun _ => True) (by kernel_rfl) trivial (fun hHeld => ?_)
            refine take_val (i := 0) (.string x) rfl (by kernel_rfl) (by kernel_rfl) (by kernel_rfl) (fun _ _ _ h => h) (by rfl) (fun w hSw => by go_simp) hHeld ?_
            simp only [Act.put, List.setIfInBounds_toArray, List.set_cons_zero, List.set_cons_succ]
            refine take_val (i := 1) (.int .i64 x.size) rfl (by kernel_rfl) (by kernel_rfl) (by kernel_rfl) (fun _ _ _ h => h) (by rfl) (fun w hSw => by go_simp) hHeld ?_
            simp only [Act.put, List.setIfInBounds_toArray, List.set_cons_zero, List.set_cons_succ]
            refine take_val (i := 2) (.int .i64 A) rfl (by kernel_rfl) (by kernel_rfl) (by kernel_rfl) (fun _ _ _ h => h) (by rfl) (fun w hSw => by go_simp) hHeld ?_
            simp only [Act.put, List.setIfInBounds_toArray, List.set_cons_zero, List.set_cons_succ]
            refine take_val (i := 3) (.int .i64 m) rfl (by kernel_rfl) (by kernel_rfl) (by kernel_rfl) (fun _ _ _ h => h) (by rfl) (fun w hSw => by go_simp) hHeld ?_
            simp only [Act.put, List.setIfInBounds_toArray, List.set_cons_zero, List.set_cons_succ]
            refine take_val (i := 4) (.int .i64 sg.size) rfl (by kernel_rfl) (by kernel_rfl) (by kernel_rfl) (fun _ _ _ h => h) (by rfl) (fun w hSw => by go_simp) hHeld ?_
            simp only [Act.put, List.setIfInBounds_toArray, List.set_cons_zero, List.set_cons_succ]
            refine take_val (i := 5) (.bool true) rfl (by kernel_rfl) (by kernel_rfl) (by kernel_rfl) (fun _ _ _ h => h) (by rfl) (fun w hSw => by go_simp) hHeld ?_
            simp only [Act.put, List.setIfInBounds_toArray, List.set_cons_zero, List.set_cons_succ]
            refine take_val (i := 6) (.bool true) rfl (by kernel_rfl) (by kernel_rfl) (by kernel_rfl) (fun _ _ _ h => h) (by rfl) (fun w hSw => by go_simp) hHeld ?_
            simp only [Act.put, List.setIfInBounds_toArray, List.set_cons_zero, List.set_cons_succ]
            refine take_not (i := 7) rfl (by kernel_rfl) (by kernel_rfl) (by kernel_rfl) (fun _ _ _ h => h) (by rfl) hHeld ?_
            simp only [Act.put, List.setIfInBounds_toArray, List.set_cons_zero, List.set_cons_succ]
            refine take_not (i := 8) rfl (by kernel_rfl) (by kernel_rfl) (by kernel_rfl) (fun _ _ _ h => h) (by rfl) hHeld ?_
            simp only [Act.put, List.setIfInBounds_toArray, List.set_cons_zero, List.set_cons_succ]
            refine take_not (i := 9) rfl (by kernel_rfl) (by kernel_rfl) (by kernel_rfl) (fun _ _ _ h => h) (by rfl) hHeld ?_
            simp only [Act.put, List.setIfInBounds_toArray, List.set_cons_zero, List.set_cons_succ]
            refine take_not (i := 10) rfl (by kernel_rfl) (by kernel_rfl) (by kernel_rfl) (fun _ _ _ h => h) (by rfl) hHeld ?_
            simp only [Act.put, List.setIfInBounds_toArray, List.set_cons_zero, List.set_cons_succ]
            refine take_not (i := 11) rfl (by kernel_rfl) (by kernel_rfl) (by kernel_rfl) (fun _ _ _ h => h) (by rfl) hHeld ?_
            simp only [Act.put, List.setIfInBounds_toArray, List.set_cons_zero, List.set_cons_succ]
            refine take_not (i := 12) rfl (by kernel_rfl) (by kernel_rfl) (by kernel_rfl) (fun _ _ _ h => h) (by rfl) hHeld ?_
            simp only [Act.put, List.setIfInBounds_toArray, List.set_cons_zero, List.set_cons_succ]
            refine take_not (i := 13) rfl (by kernel_rfl) (by kernel_rfl) (by kernel_rfl) (fun _ _ _ h => h) (by rfl) hHeld ?_
            simp only [Act.put, List.setIfInBounds_toArray, List.set_cons_zero, List.set_cons_succ]
            refine take_not (i := 14) rfl (by kernel_rfl) (by kernel_rfl) (by kernel_rfl) (fun _ _ _ h => h) (by rfl) hHeld ?_
            simp only [Act.put, List.setIfInBounds_toArray, List.set_cons_zero, List.set_cons_succ]
            refine take_not (i := 15) rfl (by kernel_rfl) (by kernel_rfl) (by kernel_rfl) (fun _ _ _ h => h) (by rfl) hHeld ?_
            simp only [Act.put, List.setIfInBounds_toArray, List.set_cons_zero, List.set_cons_succ]
            refine take_val (i := 16) (.bool true) rfl (by kernel_rfl) (by kernel_rfl) (by kernel_rfl) (fun _ _ _ h => h) (by rfl) (fun w hSw => by go_simp) hHeld ?_
            simp only [Act.put, List.setIfInBounds_toArray, List.set_cons_zero, List.set_cons_succ]
            refine take_val (i := 17) (.bool true) rfl (by kernel_rfl) (by kernel_rfl) (by kernel_rfl) (fun _ _ _ h => h) (by rfl) (fun w hSw => by go_simp) hHeld ?_
            simp only [Act.put, List.setIfInBounds_toArray, List.set_cons_zero, List.set_cons_succ]
            refine take_not (i := 18) rfl (by kernel_rfl) (by kernel_rfl) (by kernel_rfl) (fun _ _ _ h => h) (by rfl) hHeld ?_
            simp only [Act.put, List.setIfInBounds_toArray, List.set_cons_zero, List.set_cons_succ]
            refine take_not (i := 19) rfl (by kernel_rfl) (by kernel_rfl) (by kernel_rfl) (fun _ _ _ h => h) (by rfl) hHeld ?_
            simp only [Act.put, List.setIfInBounds_toArray, List.set_cons_zero, List.set_cons_succ]
            refine take_not (i := 20) rfl (by kernel_rfl) (by kernel_rfl) (by kernel_rfl) (fun _ _ _ h => h) (by rfl) hHeld ?_
            simp only [Act.put, List.setIfInBounds_toArray, List.set_cons_zero, List.set_cons_succ]
            refine take_not (i := 21) rfl (by kernel_rfl) (by kernel_rfl) (by kernel_rfl) (fun _ _ _ h => h) (by rfl) hHeld ?_
            simp only [Act.put, List.setIfInBounds_toArray, List.set_cons_zero, List.set_cons_succ]
            refine take_not (i := 22) rfl (by kernel_rfl) (by kernel_rfl) (by kernel_rfl) (fun _ _ _ h => h) (by rfl) hHeld ?_
            simp only [Act.put, List.setIfInBounds_toArray, List.set_cons_zero, List.set_cons_succ]
            refine take_not (i := 23) rfl (by kernel_rfl) (by kernel_rfl) (by kernel_rfl) (fun _ _ _ h => h) (by rfl) hHeld ?_
            simp only [Act.put, List.setIfInBounds_toArray, List.set_cons_zero, List.set_cons_succ]
            refine take_not (i := 24) rfl (by kernel_rfl) (by kernel_rfl) (by kernel_rfl) (fun _ _ _ h => h) (by rfl) hHeld ?_
            simp only [Act.put, List.setIfInBounds_toArray, List.set_cons_zero, List.set_cons_succ]
            refine take_not (i := 25) rfl (by kernel_rfl) (by kernel_rfl) (by kernel_rfl) (fun _ _ _ h => h) (by rfl) hHeld ?_
            simp only [Act.put, List.setIfInBounds_toArray, List.set_cons_zero, List.set_cons_succ]
            refine take_not (i := 26) rfl (by kernel_rfl) (by kernel_rfl) (by kernel_rfl) (fun _ _ _ h => h) (by rfl) hHeld ?_
            simp only [Act.put, List.setIfInBounds_toArray, List.set_cons_zero, List.set_cons_succ]
            refine take_val (i := 27) (.bool true) rfl (by kernel_rfl) (by kernel_rfl) (by kernel_rfl) (fun _ _ _ h => h) (by rfl) (fun w hSw => by go_simp) hHeld ?_
            simp only [Act.put, List.setIfInBounds_toArray, List.set_cons_zero, List.set_cons_succ]
            refine wpAnyH_done (by kernel_rfl) ?_ _
            go_wp2_with fail
            go_meet
            case rel => exact ⟨rfl, 1, rfl⟩
        case rest =>
        obtain ⟨rfl, n1, rfl⟩ := hcut
        have HOX1 : Hid (KE.Own w.heap.size (wr.drewN n1) u4 d) := HOX.out
        have HB1 := hid (bel_drewN HB.out n1)
        have hsz1 : w.heap.size ≤ (wr.drewN n1).heap.size := hsz
        obtain ⟨W1, hW1⟩ : ∃ W1, wr.drewN n1 = W1 := ⟨_, rfl⟩
        rw [hW1] at HOX1 HB1 hsz1 ⊢
        clear hW1
        cases OK with
        | false =>
          have HO : Hid (editsW (ws.map (·.data.toList)) = none) := HNO.out (by rw [HE2.out]; rfl)
          go_wp2_with fail
          go_ret2
          exact ew_no HO.out rfl HB1.out
        | true =>
        have henx : (en : Int) ≤ (x.size : Int) := by
          have h1 := HKW.out.symm
          rw [Bool.and_eq_true, Bool.and_eq_true] at h1
          have h2 := of_decide_eq_true h1.1.1
          have := HEN.out
          have := HM.out
          omega
        have hrs : (x.extract en x.size).size ≤ 140737488355327 := by simp; omega
        have HRR := hid (fun W => rread_any (x.extract en x.size) W hrs)
        rw [ext_tail] at HRR
        clear hrs HKW
        cases hrd : readL (x.data.toList.drop en) with
        | none =>
          have HO : Hid (editsW (ws.map (·.data.toList)) = none) := HNO.out (by rw [HE2.out, hrd]; rfl)
          simp only [hrd, readV] at HRR
          clear hrd HE2
          have hw3 := HW3.out
          go_wp2_with fail
          refine (HRR.out _).mono ?_
          rintro e w2 ⟨rfl, hb2⟩
          clear hw3
          go_wp2_with fail
          go_ret2
          exact ew_no HO.out rfl (bel_then HB1.out HB1.out.size hb2)
        | some t =>
          have htl : t.length ≤ x.size := by
            have h1 := readL_len _ _ _ (Nat.le_refl _) hrd
            rw [List.length_drop, HXL.out] at h1
            omega
          simp only [hrd, readV] at HRR
          have HO : Hid (editO x.data.toList = some (o, x.extract 0 A, ⟨t.toArray⟩)) := by
            show _ = _
            rw [HE2.out, hrd, if_pos rfl, ext_take]
          have HF1 : Hid (fitEd (o, x.extract 0 A, ⟨t.toArray⟩)) := by
            refine ⟨?_, ?_, ho0, ho5⟩
            · simp; omega
            · show t.toArray.size ≤ _
              rw [List.size_toArray]; omega
          clear hrd HE2
          obtain ⟨nm, hnm⟩ : ∃ nm, x.extract 0 A = nm := ⟨_, rfl⟩
          have HNM := hid hnm
          rw [hnm] at HO HF1
          obtain ⟨tt, htt⟩ : ∃ tt : ByteArray, ⟨t.toArray⟩ = tt := ⟨_, rfl⟩
          rw [htt] at HO HF1 HRR
          clear htt htl
          have hdl2 : d.length ≤ 1000000000000 := by rw [HDL.out]; omega
          have hw3 := HW3.out
          go_wp2_with fail
          refine (HRR.out _).mono ?_
          rintro e w2 ⟨rfl, hb2⟩
          clear hw3
          have HO2 := hid (Kind.own_on HOX1.out hb2)
          have hB2 := bel_then HB1.out HB1.out.size hb2
          have HB2 := hid hB2
          have hszW := hB2.size
          clear hb2 hB2
          go_wp2_with (first
            | (at_builtin; refine wpList_append_own _ rfl _ _ 23 rfl w.heap.size 46 j0 (.agg #[.int .i64 0, .string ⟨#[]⟩, .string ⟨#[]⟩]) 3 40 Tryz.underlying23 HJ.out hy0 hy1 hy2 rfl (by decide) _ _ _ rfl (World.ownsRow.alloc HO2.out _) ⟨w2.heap.size, 0, none⟩ 1 1 (KE.cells [(o, nm, tt)]) rfl rfl (KE.news w2 (o, nm, tt)) (KE.cells_ones _) (by unfold maxLen; omega) (by omega) (by simp; omega) ?_; intro v4 w4 hown4 hg4 hnil4; have HO4 : Hid (KE.Own w.heap.size w4 v4 (d ++ [(o, nm, tt)])) := Kind.own_snoc hown4 rfl rfl; have HB4 : Hid (Below w.heap.size w w4) := (HB2.out.alloc hszW _).grown hg4 (by simp; omega) (fun k hk => (World.ownsRow.lt HO2.out k hk).1); clear hown4 hg4 hnil4))
          go_roundg (ws.length - (i + 1))
          case measure => omega
          case rel =>
            refine ⟨i + 1, by go_num, by omega, by omega, _, HO4.out, by rw [HTK.out]; exact editsW_snoc HFW.out HO.out, by rw [List.length_append, HDL.out]; rfl, fun y hy => ?_, HB4.out⟩
            rcases List.mem_append.1 hy with h | h
            · exact HFT.out y h
            · rw [List.mem_singleton.1 h]; exact HF1.out
    · have hAz : ¬ (A : Int) < (x.size : Int) := by omega
      have hAd : decide ((A : Int) < (x.size : Int)) = false := decide_eq_false hAz
      have hAe : ((A : Int) == (x.size : Int)) = true := beq_iff_eq.2 (by omega)
      have HO : Hid (editsW (ws.map (·.data.toList)) = none) := by
        refine HNO.out ?_
        have h1 := HNA.out
        rw [List.take_of_length_le (by rw [HXL.out]; omega)] at h1
        exact k_none h1
      go_wp2_with fail
      go_ret2
      exact ew_no HO.out rfl HB.out
  have hltz : ¬ (i : Int) < (ws.length : Int) := by omega
  have hfw2 : editsW (ws.map (·.data.toList)) = some d := by
    have h1 := HFW.out
    rw [List.take_of_length_le (by rw [List.length_map]; omega)] at h1
    exact h1
  have hfit : FitE d := ⟨by rw [HDL.out]; unfold maxLen; omega, fun x hx => by
    obtain ⟨a, b, c, d⟩ := HFT.out x hx
    unfold maxLen
    exact ⟨by omega, by omega, by omega, by omega⟩⟩
  have HMM : Hid (Calls Tryz.prog 14 #[u4] wr fun e w' => e = .returned (.int .i64 (mayE d)) ∧ wr = w') := (rmayE_any u4 d wr (Kind.own_is HOX.out) hfit).mono fun e w' h => ⟨h.1, h.2.symm⟩
  have HF2 := hid hfw2
  clear hfit hfw2
  by_cases hme : mayE d = 0
  · rw [hme] at HMM
    have HME := hid hme
    clear hme
    go_wp2_with (first | (go_at_call 14; refine HMM.out.mono ?_; rintro e w2 ⟨rfl, rfl⟩))
    go_ret2
    exact ew_of HF2.out (by rw [HME.out]; rfl) (by rw [if_pos HME.out]; exact HOX.out) HB.out
  · have hne : (mayE d != 0) = true := by rw [bne_iff_ne]; exact hme
    obtain ⟨r, hr⟩ : ∃ r, mayE d = r := ⟨_, rfl⟩
    rw [hr] at hne HMM
    have HR := hid hr
    have HME := hid hme
    clear hme hr
    go_wp2_with (first | (go_at_call 14; refine HMM.out.mono ?_; rintro e w2 ⟨rfl, rfl⟩))
    go_ret2
    exact ew_of HF2.out (by rw [HR.out]; rfl) (by rw [if_neg HME.out]; exact KE.own_nil _ _) HB.out

set_option maxHeartbeats 2000000 in
set_option maxRecDepth 100000 in
theorem rparseE_any (s : ByteArray) (w : World) (hs : s.size ≤ 500000000000) :
    Calls Tryz.prog 22 #[.string s] w fun e w' => EWPost w (editsW (wordsAns s.data.toList)) e w' := by
  have HW := hid (rwords_any s w (by omega))
  have hlen : s.data.toList.length = s.size := by simp
  have HLEN := hid hlen
  clear hlen
  go_enter Tryz.func22, Tryz.ntmps22
  go_wp2_with (first
    | (go_at_call 46; refine HW.out.mono ?_; rintro e w1 ⟨⟨v1, ws, rfl, hot, hwm, hwl, hws⟩, hb1⟩; obtain ⟨p1, c1, rfl⟩ := own_slice hot; rw [HLEN.out] at hwl hws; have HPW := hid (rpwE_any p1 c1 ws w1 hot.txtAt (by omega) (fun x hx => Nat.le_trans (hws x hx) (by omega))); have HWM := hid hwm; rw [HWM.out] at HPW; clear hot hwm hws hwl)
    | (go_at_call 45; refine HPW.out.mono ?_; rintro e w2 ⟨⟨u, rfl, ho⟩, hb2⟩))
  go_ret2
  exact ⟨⟨u, rfl, Kind.own_weak ho hb1.size⟩, bel_then hb1 hb1.size hb2⟩

end Go.Proofs.YtelcongbnmfegaaGreatDoor

/-
  The contract of Parse of edits.
-/
namespace Go.Proofs.YtelcongbnmfegaaGreatDoor
open Go.RowKit
attribute [local go_sem] Oper.semAt_some

theorem editO_fit {l : List UInt8} {x : Ed} (h : editO l = some x) : x.2.1.size ≤ l.length ∧ x.2.2.size ≤ l.length ∧ 0 ≤ x.1 ∧ x.1 ≤ 5 := by
  unfold editO at h
  have ht : (l.takeWhile (fun c => !isK c)).length ≤ l.length := (List.takeWhile_sublist _).length_le
  cases hd : l.dropWhile (fun c => !isK c) with
  | nil => rw [hd] at h; cases h
  | cons c r =>
    rw [hd] at h
    simp only at h
    have hl : (l.dropWhile (fun c => !isK c)).length ≤ l.length := (List.dropWhile_sublist _).length_le
    rw [hd, List.length_cons] at hl
    have hk := kindN_range (c.toNat : Int)
    by_cases h4 : kindN (c.toNat : Int) = 4
    · rw [if_pos h4] at h
      split at h
      · cases h
        refine ⟨?_, Nat.zero_le _, (show (0 : Int) ≤ 4 by decide), (show (4 : Int) ≤ 5 by decide)⟩
        show (l.takeWhile _).toArray.size ≤ _
        rw [List.size_toArray]
        exact ht
      · cases h
    · rw [if_neg h4] at h
      cases r with
      | nil => cases h
      | cons d r2 =>
        simp only at h
        split at h
        · cases hr : readL r2 with
          | none => rw [hr] at h; cases h
          | some t =>
            rw [hr] at h
            cases h
            have h1 := readL_len _ _ _ (Nat.le_refl _) hr
            rw [List.length_cons] at hl
            refine ⟨?_, ?_, hk.1, hk.2⟩
            · show (l.takeWhile _).toArray.size ≤ _
              rw [List.size_toArray]
              exact ht
            · show t.toArray.size ≤ _
              rw [List.size_toArray]
              omega
        · cases h

theorem editsW_fit {B : Nat} (ls : List (List UInt8)) (hB : ∀ l ∈ ls, l.length ≤ B) : ∀ d, editsW ls = some d → d.length = ls.length ∧ ∀ x ∈ d, x.2.1.size ≤ B ∧ x.2.2.size ≤ B ∧ 0 ≤ x.1 ∧ x.1 ≤ 5 := by
  induction ls with
  | nil => intro d h; cases h; exact ⟨rfl, fun x hx => by simp at hx⟩
  | cons l ls ih =>
    intro d h
    simp only [editsW] at h
    cases ho : editO l with
    | none => rw [ho] at h; cases h
    | some y =>
      rw [ho] at h
      cases hr : editsW ls with
      | none => rw [hr] at h; cases h
      | some gs =>
        rw [hr] at h
        cases h
        obtain ⟨h1, h2⟩ := ih (fun l' hl' => hB l' (by simp [hl'])) gs hr
        refine ⟨by simp [h1], fun x hx => ?_⟩
        rcases List.mem_cons.1 hx with rfl | hx
        · obtain ⟨f1, f2, f3, f4⟩ := editO_fit ho
          have := hB l (by simp)
          exact ⟨by omega, by omega, f3, f4⟩
        · exact h2 x hx

theorem may_take (D : List Ed) : mayE (D.take 17) = mayE D := by
  by_cases h : D.length ≤ 17
  · rw [List.take_of_length_le h]
  · have e : (D.take 17).length = 17 := by rw [List.length_take]; omega
    unfold mayE
    rw [if_pos (by omega), if_pos (by omega)]

theorem take_short {D : List Ed} (h : mayE D = 0) : D.take 17 = D := List.take_of_length_le (by have := (mayE_zero h).1; omega)

theorem Kind.own_farE {α : Type} {K : Kind α} {N R : Nat} {w w' : World} {v : Value} {d : List α} (h : K.Own N w v d) (hg : w.grownBy w' (some R)) (hR : R < N) : K.Own N w' v d :=
  own_same h fun k hk => hg.block k (World.ownsRow.lt h k hk).2 (fun e => by have := (World.ownsRow.lt h k hk).1; have := Option.some.inj e; omega)

/-- What Parse holds between two rounds. -/
def ESt {M : Nat} (w : World) (N : Nat) (pre : List (Wd M)) (W : World) : Prop :=
  ∃ v d, W.heap[w.heap.size + 2]? = some (.cells #[v] 23 (0, 0)) ∧ KE.Own (N + 2) W v d ∧ (∃ D, editsW (plainW pre) = some D ∧ D.length = pre.length ∧ d = D.take 17) ∧
    W.heap[w.heap.size]? = some (.cells #[.slice none 0 0] 23 (0, 0)) ∧ W.heap[w.heap.size + 1]? = some (.cells #[.int .i64 0] 25 (0, 0)) ∧ Below w.heap.size w W ∧ N + 2 ≤ W.heap.size ∧ w.heap.size + 6 ≤ N

def EStop {M : Nat} (w : World) (N : Nat) (c : Code) (pre : List (Wd M)) (W : World) : Prop :=
  c = .ret ∧ editsW (plainW pre) = none ∧ W.heap[w.heap.size]? = some (.cells #[.slice none 0 0] 23 (0, 0)) ∧ W.heap[w.heap.size + 1]? = some (.cells #[.int .i64 4] 25 (0, 0)) ∧ Below w.heap.size w W ∧ w.heap.size + 6 ≤ N

set_option maxHeartbeats 1000000 in
theorem pparseE_empty (w : World) : Calls Tryz.prog 21 #[.string ⟨#[]⟩] w fun e w' => EWPost w (editsW (wordsAns [])) e w' := by
  refine (callsIn_wide (n := 3)).1 ?_
  refine callsIn_of_wp_marks Tryz.func21 rfl trivial ?_ rfl
  simp only [Tryz.ntmps21, List.size_toArray, List.length_cons, List.length_nil, Nat.reduceAdd, Nat.reduceSub, Array.replicate_succ, Array.replicate_zero, List.push_toArray, List.append_toArray, List.nil_append, List.cons_append]
  gi_wp2
  exact ⟨.tuple #[.slice none 0 0, .int .i64 0], by simp [results, Tryz.results21, go_sem], ⟨⟨_, rfl, KE.own_nil _ _⟩, ((Below.refl _ w).alloc (Nat.le_refl _) _).alloc (by simp) _⟩⟩

set_option maxHeartbeats 4000000 in
set_option maxRecDepth 100000 in
theorem pparseE_words (s : ByteArray) (w : World) (hp : PlainAt w) (h0 : s.data.toList ≠ []) (hs : s.size ≤ 4294967000) :
    Calls Tryz.prog 21 #[.string s] w fun e w' => EWPost w (editsW (wordsAns s.data.toList)) e w' := by
  refine (callsIn_wide (n := 3)).1 ?_
  refine callsIn_of_wp_marks Tryz.func21 rfl trivial ?_ rfl
  simp only [Tryz.ntmps21, List.size_toArray, List.length_cons, List.length_nil, Nat.reduceAdd, Nat.reduceSub, Array.replicate_succ, Array.replicate_zero, List.push_toArray, List.append_toArray, List.nil_append, List.cons_append]
  have hsl : (splitL s.data.toList).length ≤ s.size + 1 := by simpa using splitL_len s.data.toList
  have hne : s.toList.isEmpty = false := by
    rw [Lib.toList_data]
    cases h : s.data.toList with
    | nil => exact absurd h h0
    | cons _ _ => rfl
  gi_wp2_with (refine ⟨trivial, ?_⟩; gi_at_call 43; refine (callsIn_wide.2 (splitSeq_any _ _)).mono ?_; rintro e w3 ⟨rfl, hbx, hb3, hs3⟩)
  simp only [World.size_alloc] at hbx hb3 hs3
  have hb30 : Below w.heap.size w w3 := ((((Below.refl _ w).alloc (Nat.le_refl _) _).alloc (by simp) _).alloc (by simp; omega) _).trans (hb3.mono (by omega))
  have g0 : w3.heap[w.heap.size]? = some (.cells #[.slice none 0 0] 23 (0, 0)) := by
    rw [hb3.block _ (by omega), Below.heap_alloc _ _ _ (by simp; omega), Below.heap_alloc _ _ _ (by simp)]; exact heap_alloc_new w _
  have g1 : w3.heap[w.heap.size + 1]? = some (.cells #[.int .i64 0] 25 (0, 0)) := by
    rw [hb3.block _ (by omega), Below.heap_alloc _ _ _ (by simp)]
    have := heap_alloc_new (w.alloc (.cells #[.slice none 0 0] 23)) (.cells #[.int .i64 0] 25)
    simpa using this
  have g2 : w3.heap[w.heap.size + 2]? = some (.cells #[.slice none 0 0] 23 (0, 0)) := by
    rw [hb3.block _ (by omega)]
    have := heap_alloc_new ((w.alloc (.cells #[.slice none 0 0] 23)).alloc (.cells #[.int .i64 0] 25)) (.cells #[.slice none 0 0] 23)
    simpa using this
  have hN6 : w3.heap.size = w.heap.size + 6 := by omega
  have ST0 : Hid (∀ o1 o2, ESt (M := s.size) w w3.heap.size [] ((w3.alloc o1).alloc o2)) := fun o1 o2 => by
    have ha : ∀ k, k < w3.heap.size → ((w3.alloc o1).alloc o2).heap[k]? = w3.heap[k]? := fun k hk => by
      rw [Below.heap_alloc _ _ _ (by simp; omega), Below.heap_alloc _ _ _ hk]
    exact ⟨.slice none 0 0, [], (ha _ (by omega)).trans g2, KE.own_nil _ _, ⟨[], rfl, rfl, rfl⟩, (ha _ (by omega)).trans g0, (ha _ (by omega)).trans g1,
      (hb30.alloc hb30.size _).alloc (by have := hb30.size; simp; omega) _, by simp, by omega⟩
  have HBX := hid hbx
  have HP := hid hp
  have hen := enters_of (P := Tryz.prog) Tryz.func104 (by kernel_rfl) rfl
  clear hbx hp g0 g1 g2 hb3 hs3
  refine wpIn_rangeFunc_box (w := w3) rfl (by decide) (gf := 104) (lb := #[.pointer (some ⟨w.heap.size + 1 + 1 + 1 + 1, 0, none⟩), .pointer (some ⟨w.heap.size + 1 + 1 + 1, 0, none⟩), .pointer (some ⟨w.heap.size + 1 + 1 + 1 + 2, 0, none⟩)]) rfl trivial hen (Bs := w.heap.size + 1 + 1 + 1) (by omega)
    (split1_seq 2 (by decide) s.size _ _ _ s (Nat.le_refl _) (by unfold maxLen; omega) w3 HBX.out) ?hKt ?hKb (fun _ => rfl) (ESt w w3.heap.size) (EStop w w3.heap.size) ?hIp ?hIb ?hXp ST0.out
    (fun x => { tmps := #[.string s, undef, .pointer (some ⟨w.heap.size, 0, none⟩), .pointer (some ⟨w.heap.size + 1, 0, none⟩), .pointer (some ⟨w.heap.size + 1 + 1, 0, none⟩), .string x.1, undef, undef, undef, .string s, .bool false, .string s,
      .func (.func 104) #[] #[.pointer (some ⟨w.heap.size + 1 + 1 + 1 + 1, 0, none⟩), .pointer (some ⟨w.heap.size + 1 + 1 + 1, 0, none⟩), .pointer (some ⟨w.heap.size + 1 + 1 + 1 + 2, 0, none⟩)],
      .string x.1, undef, undef, undef, undef, undef, undef, undef, undef, undef, undef, undef, undef, undef, undef, undef, undef, undef, undef, undef, undef, undef], defers := [] }) ?assign ?body ?done ?stop
  case hKt => exact fun h k => ⟨k.1.trans h.1, k.2.1.trans h.2.1, k.2.2.trans h.2.2⟩
  case hKb => exact fun W l o' hl => ⟨World.putObj_heap_other (by omega), World.putObj_heap_other (by omega), World.putObj_heap_other (by omega)⟩
  case hIp =>
    rintro pre W o' ⟨v, d, k2, hox, hf, k0, k1, hb, hz, h6⟩
    have hg : W.grownBy (W.putObj (w3.heap.size + 1) o') (some (w3.heap.size + 1)) := grownBy_putObj' W _ o'
    exact ⟨v, d, (World.putObj_heap_other (by omega)).trans k2, Kind.own_farE hox hg (by omega), hf, (World.putObj_heap_other (by omega)).trans k0, (World.putObj_heap_other (by omega)).trans k1, hb.grown hg (by omega) (fun k e => by cases e; omega), Nat.le_trans hz hg.size, h6⟩
  case hIb =>
    rintro pre W u ⟨v, d, k2, hox, hf, k0, k1, hb, hz, h6⟩
    have hg : W.grownBy (W.setCell ⟨w.heap.size + 1 + 1 + 1, 0, none⟩ u) (some (w.heap.size + 1 + 1 + 1)) := grown_set W _ 0 u
    exact ⟨v, d, (hg.block _ (by omega) (by intro e; have := Option.some.inj e; omega)).trans k2, Kind.own_farE hox hg (by omega), hf, (hg.block _ (by omega) (by intro e; have := Option.some.inj e; omega)).trans k0, (hg.block _ (by omega) (by intro e; have := Option.some.inj e; omega)).trans k1, hb.grown hg (by omega) (fun k e => by cases e; omega), Nat.le_trans hz hg.size, h6⟩
  case hXp =>
    rintro c pre W o' ⟨hc, hf, k0, k1, hb, h6⟩
    have hg : W.grownBy (W.putObj (w3.heap.size + 1) o') (some (w3.heap.size + 1)) := grownBy_putObj' W _ o'
    exact ⟨hc, hf, (World.putObj_heap_other (by omega)).trans k0, (World.putObj_heap_other (by omega)).trans k1, ⟨hg.os.trans hb.os, hg.tape.trans hb.tape, hg.output.trans hb.output, Nat.le_trans hb.size hg.size, fun k hk => (World.putObj_heap_other (by omega)).trans (hb.block k hk)⟩, h6⟩
  case assign =>
    intro l x W K hK
    simp only [encW]
    gi_wp2
    exact hK
  case body =>
    rintro l pre x W hlW ⟨v, d, k2, hox, ⟨D, hf, hl, hdD⟩, k0, k1, hb, hz, h6⟩ _
    have hwp := read_edit x.1 W (HP.out.on hb) (Nat.le_trans x.2 hs)
    obtain ⟨i0, hi, hz0, hz1, hz2⟩ := info_parts Tryz.infoEd
    have hpl : plainW (pre ++ [x]) = plainW pre ++ [x.1.data.toList] := by simp [plainW]
    have HPL := hid hpl
    have HF := hid hf
    have HB := hid hb
    have HOX := hid hox
    have HK0 := hid k0
    have HK1 := hid k1
    have HK2 := hid k2
    have HLN := hid hl
    have HDD := hid hdD
    clear hpl hf hb hox hl hdD
    cases hwo : editO x.1.data.toList with
    | none =>
      rw [hwo] at hwp
      have HW : Hid (Calls Tryz.prog 44 #[.string x.1] W fun e w' => e = .returned (.tuple #[.agg #[.int .i64 0, .string ⟨#[]⟩, .string ⟨#[]⟩], .int .i64 4]) ∧ Below W.heap.size W w') := hwp
      have HNO : Hid (editsW (plainW (pre ++ [x])) = none) := by
        show _ = _
        rw [HPL.out]
        exact editsW_no hwo
      clear hwp k0 k1 k2
      have HN6 := hid hN6
      clear hN6
      gi_wp2_with (refine ⟨trivial, ?_⟩; gi_at_call 44; refine (CallsIn.inRound l (callsIn_wide.2 HW.out)).mono ?_; rintro e W2 ⟨rfl, hb2⟩; have hs2 := hb2.size; have t0 := HK0.out; have t1 := HK1.out; have t0' := (Below.heap_alloc W2 (.cells #[.int .i64 0, .string ⟨#[]⟩, .string ⟨#[]⟩] 46) w.heap.size (by omega)).trans ((hb2.block w.heap.size (by omega)).trans t0); have t1' := (Below.heap_alloc W2 (.cells #[.int .i64 0, .string ⟨#[]⟩, .string ⟨#[]⟩] 46) (w.heap.size + 1) (by omega)).trans ((hb2.block (w.heap.size + 1) (by omega)).trans t1); obtain ⟨q0, q1⟩ := one_facts t0'; obtain ⟨q2, q3⟩ := one_facts t1'; have T0 := hid t0'; have T1 := hid t1'; clear t0 t1 t0' t1')
      have hbb := ((((HB.out.trans (hb2.mono HB.out.size)).alloc (Nat.le_trans HB.out.size hs2) (.cells #[.int .i64 0, .string ⟨#[]⟩, .string ⟨#[]⟩] 46)).setCell (p := ⟨w.heap.size, 0, none⟩) (Nat.le_refl _) (.slice none 0 0)).setCell (p := ⟨w.heap.size + 1, 0, none⟩) (by show _ ≤ w.heap.size + 1; omega) (.int .i64 4))
      have hkf : KeepsFrom w3.heap.size W (W2.alloc (.cells #[.int .i64 0, .string ⟨#[]⟩, .string ⟨#[]⟩] 46)) := KeepsFrom.trans (keeps_below hb2) ((KeepsOthers.alloc _ _).from _)
      exact ⟨(hkf.trans ((KeepsOthers.setCell _ _ _).from _)).trans ((KeepsOthers.setCell _ _ _).from _), rfl, HNO.out, Boxed.other (Boxed.set _ T0.out) (by omega) _, Boxed.set _ (Boxed.other T1.out (by omega) _), hbb, h6⟩
    | some y =>
      rw [hwo] at hwp
      have HW : Hid (Calls Tryz.prog 44 #[.string x.1] W fun e w' => e = .returned (.tuple #[.agg #[.int .i64 y.1, .string y.2.1, .string y.2.2], .int .i64 0]) ∧ Below W.heap.size W w') := hwp
      have HNO : Hid (editsW (plainW (pre ++ [x])) = some (D ++ [y])) := by
        show _ = _
        rw [HPL.out]
        exact editsW_snoc HF.out hwo
      obtain ⟨yo, yf, yt⟩ := y
      simp only at HW
      clear hwp k0 k1 k2
      obtain ⟨pv, cv, rfl⟩ := Kind.own_shape HOX.out
      by_cases h17 : d.length ≤ 16
      · have h17z : (d.length : Int) ≤ 16 := by omega
        have HDT : Hid (d ++ [(yo, yf, yt)] = (D ++ [(yo, yf, yt)]).take 17) := by
          show _ = _
          have hD : D.length ≤ 16 := by rw [HDD.out, List.length_take] at h17; omega
          rw [List.take_of_length_le (by simp; omega), HDD.out, List.take_of_length_le (by omega)]
        have HN6 := hid hN6
        clear hN6
        gi_wp2_with (first | (gi_at_builtin; refine wpListIn_append_own _ rfl _ _ 23 rfl (w3.heap.size + 2) 46 i0 (.agg #[.int .i64 0, .string ⟨#[]⟩, .string ⟨#[]⟩]) 3 40 Tryz.underlying23 hi hz0 hz1 hz2 rfl (by decide) _ _ _ rfl HX2.out ⟨W2.heap.size + 1, 0, none⟩ 1 1 (KE.cells [(yo, yf, yt)]) rfl rfl HC.out (KE.cells_ones _) (by unfold maxLen; omega) (by omega) (by simp; omega) ?_; intro v' w1 hown' hgrow _; obtain ⟨g', cap', rfl⟩ := ownsRow_succ hown'; have hv1 := T2.out.kept hgrow (T2.out.not_row (by decide) HX2.out); have hc1 := hv1.cell; have hf1 := hv1.frozen; have HV1 := hid hv1; have HO := hid hown'; have HG := hid hgrow; clear hv1 hown' hgrow) | (refine ⟨trivial, ?_⟩; gi_at_call 44; refine (CallsIn.inRound l (callsIn_wide.2 HW.out)).mono ?_; rintro e W2 ⟨rfl, hb2⟩; have hs2 := hb2.size; have t2 := HK2.out; have t2' := (Below.heap_alloc W2 (.cells #[.int .i64 yo, .string yf, .string yt] 46) (w.heap.size + 2) (by omega)).trans ((hb2.block (w.heap.size + 2) (by omega)).trans t2); obtain ⟨q0, q1⟩ := one_facts t2'; have T2 : Hid (Boxed ((W2.alloc (.cells #[.int .i64 yo, .string yf, .string yt] 46)).alloc (.cells #[.int .i64 yo, .string yf, .string yt] 46)) (w.heap.size + 2) 23 (.slice pv d.length cv)) := hid (Boxed.alloc t2' _); have HB2 : Hid (Below W.heap.size W ((W2.alloc (.cells #[.int .i64 yo, .string yf, .string yt] 46)).alloc (.cells #[.int .i64 yo, .string yf, .string yt] 46))) := hid ((hb2.alloc hs2 _).alloc (by simp; omega) _); have HX2 := hid (Kind.own_on HOX.out HB2.out); have HC := hid (KE.news (W2.alloc (.cells #[.int .i64 yo, .string yf, .string yt] 46)) (yo, yf, yt)); rw [World.size_alloc] at HC; clear t2 t2'))
        have hb12 : Below (w3.heap.size + 2) W w1 := (HB2.out.mono hz).trans ((Below.refl _ _).grown HG.out (by simp; omega) (fun k hk => (World.ownsRow.lt HX2.out k hk).1))
        have hsz1 := hb12.size
        have hox0 : KE.Own (w3.heap.size + 2) w1 (.slice (some ⟨g', 0, none⟩) (d.length + 1) cap') (d ++ [(yo, yf, yt)]) := Kind.own_snoc HO.out rfl rfl
        have hox1 := Kind.own_farE hox0 (grown_set w1 (w.heap.size + 2) 0 (.slice (some ⟨g', 0, none⟩) (d.length + 1) cap')) (by omega)
        have hkf : KeepsFrom w3.heap.size W w1 := (keeps_below HB2.out).trans ((KeepsOthers.of_grownBy HG.out (fun j o ej hj => row_cells HX2.out ej hj)).from _)
        refine ⟨hkf.trans ((KeepsOthers.setCell _ _ _).from _), ⟨(Below.heap_setCell w1 _ _ _ (by show _ ≠ w.heap.size + 1 + 1; omega)).trans (hb12.block _ (by omega)), (Below.heap_setCell w1 _ _ _ (by show _ ≠ w.heap.size + 1 + 1; omega)).trans (hb12.block _ (by omega)), (Below.heap_setCell w1 _ _ _ (by show _ ≠ w.heap.size + 1 + 1; omega)).trans (hb12.block _ (by omega))⟩, ?_⟩
        exact ⟨_, d ++ [(yo, yf, yt)], Boxed.set _ HV1.out, hox1, ⟨D ++ [(yo, yf, yt)], HNO.out, by rw [List.length_append, List.length_append, HLN.out]; rfl, HDT.out⟩,
          Boxed.other ((hb12.block _ (by omega)).trans HK0.out) (by omega) _, Boxed.other ((hb12.block _ (by omega)).trans HK1.out) (by omega) _,
          (HB.out.trans (hb12.mono (by omega))).setCell (p := ⟨w.heap.size + 1 + 1, 0, none⟩) (by show _ ≤ w.heap.size + 1 + 1; omega) _, by simp [World.setCell]; omega, h6⟩
      · have h17z : ¬ ((d.length : Int) ≤ 16) := by omega
        have HDT : Hid (d = (D ++ [(yo, yf, yt)]).take 17) := by
          show _ = _
          have hD : 17 ≤ D.length := by rw [HDD.out, List.length_take] at h17; omega
          rw [List.take_append_of_le_length hD]
          exact HDD.out
        have HN6 := hid hN6
        clear hN6
        gi_wp2_with (refine ⟨trivial, ?_⟩; gi_at_call 44; refine (CallsIn.inRound l (callsIn_wide.2 HW.out)).mono ?_; rintro e W2 ⟨rfl, hb2⟩; have hs2 := hb2.size; have t2 := HK2.out; have t2' := (Below.heap_alloc W2 (.cells #[.int .i64 yo, .string yf, .string yt] 46) (w.heap.size + 2) (by omega)).trans ((hb2.block (w.heap.size + 2) (by omega)).trans t2); obtain ⟨q0, q1⟩ := one_facts t2'; have T2 := hid t2'; have HB2 : Hid (Below W.heap.size W (W2.alloc (.cells #[.int .i64 yo, .string yf, .string yt] 46))) := hid (hb2.alloc hs2 _); clear t2 t2')
        refine ⟨keeps_below HB2.out, ⟨HB2.out.block _ (by omega), HB2.out.block _ (by omega), HB2.out.block _ (by omega)⟩, ?_⟩
        exact ⟨_, d, T2.out, Kind.own_on HOX.out HB2.out, ⟨D ++ [(yo, yf, yt)], HNO.out, by rw [List.length_append, List.length_append, HLN.out]; rfl, HDT.out⟩,
          (HB2.out.block _ (by omega)).trans HK0.out, (HB2.out.block _ (by omega)).trans HK1.out, HB.out.trans (HB2.out.mono HB.out.size), Nat.le_trans hz HB2.out.size, h6⟩
  case done =>
    rintro xs W hS ⟨v, d, k2, hox, ⟨D, hf, hl, hdD⟩, k0, k1, hb, hz, h6⟩ hK
    have hfs : editsW (wordsAns s.data.toList) = some D := by unfold wordsAns; rw [if_neg h0, ← hS]; exact hf
    obtain ⟨f1, f3⟩ := editsW_fit (B := s.size) (plainW xs) (fun l hl => by
      obtain ⟨x, _, rfl⟩ := List.mem_map.1 hl
      simpa using x.2) D hf
    have hdl : d.length ≤ 17 := by rw [hdD, List.length_take]; omega
    have hfit : FitE d := ⟨by unfold maxLen; omega, fun x hx => by
      obtain ⟨a1, a2, a3, a4⟩ := f3 x (by rw [hdD] at hx; exact List.mem_of_mem_take hx)
      refine ⟨?_, ?_, by omega, by omega⟩
      · unfold maxLen; omega
      · unfold maxLen; omega⟩
    have hmy := pmayE_raw v d W (Kind.own_is hox) hfit
    have hmt := may_take D
    rw [← hdD] at hmt
    rw [hmt] at hmy
    obtain ⟨pv, cv, rfl⟩ := Kind.own_shape hox
    obtain ⟨k, hk⟩ : ∃ k, mayE D = k := ⟨_, rfl⟩
    have HDD : Hid (k = 0 → D = d) := fun e => by rw [hdD]; exact (take_short (by rw [hk]; exact e)).symm
    have HCD : Hid (codeL (some D) = k) := hk
    have HAN : Hid (ansL (some D) = if k = 0 then D else []) := by show _ = _; rw [← hk]; rfl
    rw [hk] at hmy
    have HMY := hid hmy
    have HOX := hid hox
    have HK0 := hid k0
    have HK1 := hid k1
    have HK2 := hid k2
    have HB := hid hb
    have HK := hid hK
    have HFS := hid hfs
    have HN6 := hid hN6
    obtain ⟨c2, _⟩ := one_facts k2
    clear hmy hmt hfit hox hf hl hdD k0 k1 k2 hK hN6 hb hfs hk f1 f3
    by_cases hm : k = 0
    · have HZ := hid hm
      subst hm
      gi_wp2_with (refine ⟨trivial, ?_⟩; gi_at_call 13; refine (callsIn_wide.2 HMY.out).mono ?_; rintro e W2 ⟨rfl, hb2⟩; obtain ⟨q0, q1⟩ := one_facts ((hb2.block w.heap.size (by omega)).trans HK0.out); obtain ⟨q2, q3⟩ := one_facts ((hb2.block (w.heap.size + 1) (by omega)).trans HK1.out); obtain ⟨q4, q5⟩ := one_facts ((hb2.block (w.heap.size + 2) (by omega)).trans HK2.out))
      have u0 : Boxed W2 w.heap.size 23 (.slice none 0 0) := (hb2.block w.heap.size (by omega)).trans HK0.out
      have u1 : Boxed W2 (w.heap.size + 1) 25 (.int .i64 0) := (hb2.block (w.heap.size + 1) (by omega)).trans HK1.out
      obtain ⟨W4, hW4⟩ : ∃ W4, (W2.setCell ⟨w.heap.size, 0, none⟩ (.slice pv d.length cv)).setCell ⟨w.heap.size + 1, 0, none⟩ (.int .i64 0) = W4 := ⟨_, rfl⟩
      have y0 : Boxed W4 w.heap.size 23 (.slice pv d.length cv) := by rw [← hW4]; exact Boxed.other (Boxed.set _ u0) (by omega) _
      have y1 : Boxed W4 (w.heap.size + 1) 25 (.int .i64 0) := by rw [← hW4]; exact Boxed.set _ (Boxed.other u1 (by omega) _)
      have hKD : W4.heap[w3.heap.size]? = some (.deferred (some [])) := by
        rw [← hW4]
        exact (Below.heap_setCell _ _ _ _ (by show _ ≠ w.heap.size + 1; omega)).trans ((Below.heap_setCell _ _ _ _ (by show _ ≠ w.heap.size; omega)).trans ((hb2.block _ (by omega)).trans HK.out))
      have hb4 : Below w.heap.size w W4 := by
        rw [← hW4]
        exact ((HB.out.trans (hb2.mono HB.out.size)).setCell (p := ⟨w.heap.size, 0, none⟩) (Nat.le_refl _) _).setCell (p := ⟨w.heap.size + 1, 0, none⟩) (by show _ ≤ w.heap.size + 1; omega) _
      have ha4 : KE.Own (w3.heap.size + 2) W4 (.slice pv d.length cv) d := by
        rw [← hW4]
        exact Kind.own_farE (Kind.own_farE (Kind.own_on HOX.out hb2) (grown_set W2 w.heap.size 0 _) (by omega)) (grown_set _ (w.heap.size + 1) 0 _) (by omega)
      rw [hW4]
      have hsz4 := hb4.size
      have hg5 : W4.grownBy (W4.putObj w3.heap.size (.deferred none)) (some w3.heap.size) := grownBy_putObj' W4 _ _
      have z0 : Boxed (W4.putObj w3.heap.size (.deferred none)) w.heap.size 23 (.slice pv d.length cv) := (World.putObj_heap_other (by omega)).trans y0
      have z1 : Boxed (W4.putObj w3.heap.size (.deferred none)) (w.heap.size + 1) 25 (.int .i64 0) := (World.putObj_heap_other (by omega)).trans y1
      have z0c := z0.cell
      have z1c := z1.cell
      refine ⟨by simp, .inl ⟨_, _, rfl, run_takeDeferred hKD, ?_⟩⟩
      refine ⟨.tuple #[.slice pv d.length cv, .int .i64 0], by simp [results, Tryz.results21, go_sem, z0c, z1c], ⟨.slice pv d.length cv, ?_, ?_⟩, hb4.grown hg5 (by omega) (fun k e => by cases e; omega)⟩
      · rw [HFS.out, HCD.out]
      · rw [HFS.out, HAN.out]
        simp only [if_true]
        rw [HDD.out (by trivial)]
        exact Kind.own_weak (Kind.own_farE ha4 hg5 (by omega)) (by omega)
    · have hne : (k != 0) = true := by rw [bne_iff_ne]; exact hm
      have HNZ := hid hm
      gi_wp2_with (refine ⟨trivial, ?_⟩; gi_at_call 13; refine (callsIn_wide.2 HMY.out).mono ?_; rintro e W2 ⟨rfl, hb2⟩; obtain ⟨q0, q1⟩ := one_facts ((hb2.block w.heap.size (by omega)).trans HK0.out); obtain ⟨q2, q3⟩ := one_facts ((hb2.block (w.heap.size + 1) (by omega)).trans HK1.out))
      have u0 : Boxed W2 w.heap.size 23 (.slice none 0 0) := (hb2.block w.heap.size (by omega)).trans HK0.out
      have u1 : Boxed W2 (w.heap.size + 1) 25 (.int .i64 0) := (hb2.block (w.heap.size + 1) (by omega)).trans HK1.out
      obtain ⟨W4, hW4⟩ : ∃ W4, (W2.setCell ⟨w.heap.size, 0, none⟩ (.slice none 0 0)).setCell ⟨w.heap.size + 1, 0, none⟩ (.int .i64 k) = W4 := ⟨_, rfl⟩
      have y0 : Boxed W4 w.heap.size 23 (.slice none 0 0) := by rw [← hW4]; exact Boxed.other (Boxed.set _ u0) (by omega) _
      have y1 : Boxed W4 (w.heap.size + 1) 25 (.int .i64 k) := by rw [← hW4]; exact Boxed.set _ (Boxed.other u1 (by omega) _)
      have hKD : W4.heap[w3.heap.size]? = some (.deferred (some [])) := by
        rw [← hW4]
        exact (Below.heap_setCell _ _ _ _ (by show _ ≠ w.heap.size + 1; omega)).trans ((Below.heap_setCell _ _ _ _ (by show _ ≠ w.heap.size; omega)).trans ((hb2.block _ (by omega)).trans HK.out))
      have hb4 : Below w.heap.size w W4 := by
        rw [← hW4]
        exact ((HB.out.trans (hb2.mono HB.out.size)).setCell (p := ⟨w.heap.size, 0, none⟩) (Nat.le_refl _) _).setCell (p := ⟨w.heap.size + 1, 0, none⟩) (by show _ ≤ w.heap.size + 1; omega) _
      rw [hW4]
      have hsz4 := hb4.size
      have hg5 : W4.grownBy (W4.putObj w3.heap.size (.deferred none)) (some w3.heap.size) := grownBy_putObj' W4 _ _
      have z0 : Boxed (W4.putObj w3.heap.size (.deferred none)) w.heap.size 23 (.slice none 0 0) := (World.putObj_heap_other (by omega)).trans y0
      have z1 : Boxed (W4.putObj w3.heap.size (.deferred none)) (w.heap.size + 1) 25 (.int .i64 k) := (World.putObj_heap_other (by omega)).trans y1
      have z0c := z0.cell
      have z1c := z1.cell
      refine ⟨by simp, .inl ⟨_, _, rfl, run_takeDeferred hKD, ?_⟩⟩
      refine ⟨.tuple #[.slice none 0 0, .int .i64 k], by simp [results, Tryz.results21, go_sem, z0c, z1c], ⟨.slice none 0 0, ?_, ?_⟩, hb4.grown hg5 (by omega) (fun k e => by cases e; omega)⟩
      · rw [HFS.out, HCD.out]
      · rw [HFS.out, HAN.out, if_neg HNZ.out]
        exact KE.own_nil _ _
  case stop =>
    rintro c pre W hSp ⟨rfl, hf, k0, k1, hb, h6⟩ hK
    have HN6 := hid hN6
    clear hN6
    gi_wp2
    have hg5 : W.grownBy (W.putObj w3.heap.size (.deferred none)) (some w3.heap.size) := grownBy_putObj' W _ _
    have z0 : Boxed (W.putObj w3.heap.size (.deferred none)) w.heap.size 23 (.slice none 0 0) := (World.putObj_heap_other (by omega)).trans k0
    have z1 : Boxed (W.putObj w3.heap.size (.deferred none)) (w.heap.size + 1) 25 (.int .i64 4) := (World.putObj_heap_other (by omega)).trans k1
    have z0c := z0.cell
    have z1c := z1.cell
    have hno : editsW (wordsAns s.data.toList) = none := by
      obtain ⟨r, hr⟩ := hSp
      unfold wordsAns
      rw [if_neg h0, ← hr, editsW_append, hf]; rfl
    refine ⟨by simp, .inl ⟨_, _, rfl, run_takeDeferred hK, ?_⟩⟩
    refine ⟨.tuple #[.slice none 0 0, .int .i64 4], by simp [results, Tryz.results21, go_sem, z0c, z1c], ⟨.slice none 0 0, ?_, ?_⟩, hb.grown hg5 hb.size (fun k e => by cases e; omega)⟩
    · rw [hno]; rfl
    · rw [hno]; exact KE.own_nil _ _

theorem pparseE_plain (s : ByteArray) (w : World) (hp : PlainAt w) (hs : s.size ≤ 4294967000) :
    Calls Tryz.prog 21 #[.string s] w fun e w' => EWPost w (editsW (wordsAns s.data.toList)) e w' := by
  by_cases h0 : s.data.toList = []
  · have e : s = ⟨#[]⟩ := by
      obtain ⟨⟨l⟩⟩ := s
      cases h0
      rfl
    subst e
    exact pparseE_empty w
  · exact pparseE_words s w hp h0 hs

end Go.Proofs.YtelcongbnmfegaaGreatDoor

/-
  The walk of the reference's Apply.
-/
namespace Go.Proofs.YtelcongbnmfegaaGreatDoor
open Go.RowKit

set_option maxHeartbeats 16000000 in
set_option maxRecDepth 100000 in
theorem rapply_far (v u : Value) (d : List Fx) (l : List Ed) (w : World) (hv : IsXs w v d) (hf : FitX d) (hu : KE.Is w u l) (hfl : FitE l) :
    Calls Tryz.prog 11 #[v, u] w fun e w' => ApFar w (d.map Fx.fld) l e w' := by
  obtain ⟨i0, hi0, hz0, hz1, hz2⟩ := info_parts Tryz.infoStr
  have HI := hid hi0
  have HMV := hid (rmay_any v d w hv hf)
  have HME := hid (fun W (hW : Below w.heap.size w W) => rmayE_any u l W (KE.is_kept hu hW) hfl)
  obtain ⟨V, hV⟩ : ∃ V, d.map Fx.fld = V := ⟨_, rfl⟩
  cases hmv : mayB (d.map Fx.fld) with
  | false =>
    rw [hmv] at HMV
    have H0 : Hid (codeA V l = 3) := by show _ = _; rw [← hV]; exact codeA_field hmv
    rw [hV]
    clear hmv hV hv hf hu hfl hi0
    go_enter Tryz.func11, Tryz.ntmps11
    go_wp2_with (first | (go_at_call 26; refine HMV.out.mono ?_; rintro e w1 ⟨rfl, hg1⟩))
    go_ret2
    exact ap_no H0.out (by decide) rfl hg1.below
  | true =>
  rw [hmv] at HMV
  by_cases hme : mayE l = 0
  · have HFD := hid (fun W (hW : Below w.heap.size w W) => fields_any v d W (hv.kept hW) hf (may_copyE hmv))
    have HOK := hid (okR_may hmv)
    rw [hme] at HME
    obtain ⟨hl16, hen, her, hes⟩ := mayE_zero hme
    have H1 : Hid (mayB V = true) := by show _ = _; rw [← hV]; exact hmv
    have H2 := hid hme
    have HEN := hid hen
    have HER := hid her
    have HES := hid hes
    rw [hV] at HOK ⊢
    have HV := hid hV
    obtain ⟨q, cap, rfl, hd⟩ := hu
    have HD := hid hd
    clear hmv hme hV hv hf hfl hi0 hen her hes hd
    go_enter Tryz.func11, Tryz.ntmps11
    go_wp2_with (first
      | (go_at_call 26; refine HMV.out.mono ?_; rintro e w1 ⟨rfl, hg1⟩; have hb1 := hg1.below; clear hg1)
      | (go_at_call 14; refine (HME.out _ hb1).mono ?_; rintro e w2 ⟨rfl, q2⟩; have hb2 := hb1; rw [← q2] at hb2; clear q2)
      | (go_at_call 27; refine (HFD.out _ hb2).mono ?_; rintro e w3 ⟨u7, o3, rfl, hoj, hm3, hb3⟩; have HST : Hid (ASt w V l 0 u7 w3) := ⟨o3, hoj.1.is, farV_own hoj hb2.size, by rw [hm3, HV.out]; exact HOK.out, by rw [hm3, HV.out]; rfl, bel_then hb2 hb2.size hb3⟩; clear hoj hm3 hb3 hb1 hb2))
    go_loopg [7, 8] l.length (fun g vr vi wr => ∃ i : Nat, vi = .int .i64 i ∧ i ≤ l.length ∧ l.length - i ≤ g ∧ Hid (ASt w V l i vr wr))
    case atStart => exact ⟨0, rfl, by omega, by omega, HST⟩
    case round =>
    clear HST HMV HME HFD HOK HV
    obtain ⟨i, rfl, hi, hgk, HST⟩ := hrel
    obtain ⟨o, hio, hfv, hok, hrun, hbo⟩ := HST.out
    have HFV := hid hfv
    clear HST hfv
    by_cases hlt : i < l.length
    · have hltz : (i : Int) < (l.length : Int) := by omega
      have hiz : (0 : Int) ≤ i := by omega
      obtain ⟨b, off, rfl, hat⟩ : ∃ b off, q = some ⟨b, off, none⟩ ∧ KE.At w b off l := by
        rcases HD.out with h | h
        · subst h; simp at hlt
        · exact h
      have hcl : ∀ W, Below w.heap.size w W → W.cell? ⟨b, off + i * 3, none⟩ = some (.int .i64 (l[i]).1) ∧ W.cell? ⟨b, off + i * 3 + 1, none⟩ = some (.string (l[i]).2.1) ∧ W.cell? ⟨b, off + i * 3 + 2, none⟩ = some (.string (l[i]).2.2) := fun W hW => ke_cells (Kind.at_kept hat hW) i hlt
      have hdr : l.drop i = l[i] :: l.drop (i + 1) := List.drop_eq_getElem_cons hlt
      have hxn := HEN.out _ (List.getElem_mem hlt)
      have hxr := HER.out _ (List.getElem_mem hlt)
      have hxs := HES.out _ (List.getElem_mem hlt)
      obtain ⟨x, hx⟩ : ∃ x, l[i] = x := ⟨_, rfl⟩
      rw [hx] at hcl hdr hxn hxr hxs
      obtain ⟨xo, xf, xt⟩ := x
      simp only at hcl
      have hor : 1 ≤ xo ∧ xo ≤ 5 := by
        unfold rightE at hxr
        simp only [Bool.and_eq_true, decide_eq_true_eq] at hxr
        exact ⟨hxr.1.1, hxr.1.2⟩
      obtain ⟨R, hR⟩ : ∃ R, o.map Fx.fld = R := ⟨_, rfl⟩
      rw [hR] at hok hrun
      have hol : o.length ≤ 1000 := by have := hok.len; rw [← hR, List.length_map] at this; omega
      have htl := (okR_texts hok xf).1
      have HW : Hid (∀ (W : World) (p : Option Addr) (c : Nat) (ts : List ByteArray), Below wr.heap.size wr W → TxtAt W p ts → Far w.heap.size ⟨xf, p, c, ts⟩ → Calls Tryz.prog 29 #[u7, .string xf, .slice p ts.length c] W fun e w' => WithPost (Far w.heap.size) W (setF R xf ts) e w') := fun W p c ts hW ht hfar => by
        have := with_any (Far w.heap.size) u7 o xf p c ts W (hio.kept hW) hol ht (by rw [hR]; exact hok.rise) HFV.out.2 hfar
        rw [hR] at this
        exact this
      have HTX : Hid (Calls Tryz.prog 28 #[u7, .string xf] wr fun e w' => (∃ p c, e = .returned (.slice p (textsOf R xf).length c) ∧ TxtAt wr p (textsOf R xf)) ∧ wr = w') := by
        have := rtexts_any u7 xf o wr hio (okR_fit (k := i) (by rw [hR]; exact hok) (by omega))
        rw [hR] at this
        exact this.mono fun e w' h => ⟨h.1, h.2.symm⟩
      have HTEST : Hid (doE R (5, xf, xt) = (0, R) → ASt w V l (i + 1) u7 wr → True) := fun _ _ => trivial
      have HGO : Hid (∀ (R2 : List Fld) (u5 : Value) (o2 : List Fx) (w5 : World), doE R (xo, xf, xt) = (0, R2) → IsXs w5 u5 o2 → FarV w.heap.size u5 o2 → o2.map Fx.fld = R2 → Below w.heap.size w w5 → ASt w V l (i + 1) u5 w5) := fun R2 u5 o2 w5 he h1 hf h2 h3 => ast_go hdr hxn hxs hok hrun he h1 hf h2 h3
      have HSTOP : Hid (∀ c : Int, doE R (xo, xf, xt) = (c, []) → c ≠ 0 → codeA V l = c) := fun c he hc => by
        have := run_stop hdr hrun he hc
        rw [codeA_run H1.out H2.out (by rw [this]; exact hc), this]
      have HIO := hid hio
      have HBO := hid hbo
      have HRR := hid hR
      have HCL := hid hcl
      obtain ⟨c0, c1, c2⟩ := hcl wr hbo
      obtain ⟨old, hold⟩ : ∃ old, textsOf R xf = old := ⟨_, rfl⟩
      rw [hold] at HTX htl
      have HOLD := hid hold
      have hsz := hbo.size
      clear HTEST hat hx hxn hxr hxs hok hrun hio hbo hR hcl hdr hold
      obtain ⟨W0, rfl⟩ : ∃ W0, W0 = wr := ⟨_, rfl⟩
      go_wp2_with (first | (go_at_call 28; refine HTX.out.mono ?_; rintro e w1 ⟨⟨p9, c9, rfl, ht9⟩, rfl⟩; have HT9 := hid ht9; clear ht9))
      go_loopg [10, 11, 12] old.length (fun g vb va vj wr2 => ∃ j : Nat, vj = .int .i64 j ∧ j ≤ old.length ∧ old.length - j ≤ g ∧ Hid (TwoT W0.heap.size wr2 va vb (old.take j) (restT (old.take j) xt)) ∧ Hid (Below W0.heap.size W0 wr2))
      case atStart => exact ⟨0, rfl, by omega, by omega, TwoT.none _ _, Below.refl _ _⟩
      case round =>
      clear HTX
      obtain ⟨j, rfl, hj, hgj, HTW, HBJ⟩ := hrel
      have hszj := HBJ.out.size
      have hbw := bel_then HBO.out hsz HBJ.out
      obtain ⟨d0, d1, d2⟩ := HCL.out wr hbw
      have HBW := hid hbw
      clear hbw
      by_cases hlj : j < old.length
      · have hljz : (j : Int) < (old.length : Int) := by omega
        have hjz : (0 : Int) ≤ j := by omega
        obtain ⟨b2, o2, rfl, ht2⟩ : ∃ b o, p9 = some ⟨b, o, none⟩ ∧ ∀ i, (h : i < old.length) → W0.cell? ⟨b, o + i, none⟩ = some (.string old[i]) := by
          rcases HT9.out with h | h
          · rw [h] at hlj; simp at hlj
          · exact h
        have hct : ∀ W, Below W0.heap.size W0 W → W.cell? ⟨b2, o2 + j, none⟩ = some (.string old[j]) ∧ W.cell? ⟨b, off + i * 3 + 2, none⟩ = some (.string xt) := fun W hW =>
          ⟨(hW.cell (p := ⟨b2, o2 + j, none⟩) (cell_block (ht2 j hlj))).trans (ht2 j hlj), (HCL.out W (bel_then HBO.out hsz hW)).2.2⟩
        have hst : old.take (j + 1) = old.take j ++ [old[j]] := List.take_succ_eq_append_getElem hlj
        obtain ⟨t, hte⟩ : ∃ t, old[j] = t := ⟨_, rfl⟩
        rw [hte] at hct hst
        have hrst : restT (old.take (j + 1)) xt = restT (old.take j) xt ++ if t = xt then [] else [t] := by
          rw [hst]
          unfold restT
          rw [List.filter_append]
          congr 1
          by_cases e : t = xt <;> simp [e]
        have htl2 : (old.take j).length ≤ 1000 := by rw [List.length_take]; omega
        have hrl2 : (restT (old.take j) xt).length ≤ 1000 := by have := rest_len (old.take j) xt; omega
        obtain ⟨acc, hacc⟩ : ∃ acc, old.take j = acc := ⟨_, rfl⟩
        rw [hacc] at HTW hst hrst htl2 hrl2
        obtain ⟨ra, hra⟩ : ∃ ra, restT acc xt = ra := ⟨_, rfl⟩
        rw [hra] at HTW hrst hrl2
        have HST := hid hst
        have HRST := hid hrst
        have HCT := hid hct
        obtain ⟨t0, t1⟩ := hct wr HBJ.out
        clear ht2 hst hrst hct hte hacc hra
        by_cases hq : t = xt
        · have hqe := seq_true hq
          have HQ := hid hq
          clear hq
          go_wp2_with (at_builtin; refine wpList_append_own_at _ rfl _ _ 42 rfl W0.heap.size 9 i0 (.string ⟨#[]⟩) 1 16 Tryz.underlying42 HI.out hz0 hz1 hz2 rfl (by decide) _ _ _ rfl (World.ownsRow.alloc HTW.out.1 _) _ 1 1 [.string t] rfl rfl (fun j u hj => KT.news wr t j u hj) (by intro u hu; simp at hu; subst hu; rfl) (by unfold maxLen; omega) (by omega) (by simp; omega) ?_; intro v4 w4 hown4 hg4 _ hat4; have HT4 := hid (TwoT.put HTW.out hown4 rfl rfl hg4 hat4); have hb4 := (HBJ.out.alloc hszj (.cells #[.string t] 9)).grown hg4 (by simp; omega) (fun k hk => (World.ownsRow.lt HTW.out.1 k hk).1); have HB4 := hid hb4; obtain ⟨t4, l4⟩ := HCT.out w4 hb4; clear hown4 hg4 hat4 hb4)
          go_quiet (fail)
          go_wp2_with fail
          go_roundg (old.length - (j + 1))
          case measure => omega
          refine ⟨j + 1, by go_num, by omega, by omega, ?_, bel_drewN HB4.out _⟩
          rw [HRST.out, HST.out, if_pos HQ.out, List.append_nil]
          exact HT4.out
        · have hqe := seq_false hq
          have HQ := hid hq
          clear hq
          go_wp2_with (at_builtin; refine wpList_append_own_at _ rfl _ _ 42 rfl W0.heap.size 9 i0 (.string ⟨#[]⟩) 1 16 Tryz.underlying42 HI.out hz0 hz1 hz2 rfl (by decide) _ _ _ rfl (World.ownsRow.alloc HTW.out.1 _) _ 1 1 [.string t] rfl rfl (fun j u hj => KT.news wr t j u hj) (by intro u hu; simp at hu; subst hu; rfl) (by unfold maxLen; omega) (by omega) (by simp; omega) ?_; intro v4 w4 hown4 hg4 _ hat4; have HT4 := hid (TwoT.turn (TwoT.put HTW.out hown4 rfl rfl hg4 hat4)); have hb4 := (HBJ.out.alloc hszj (.cells #[.string t] 9)).grown hg4 (by simp; omega) (fun k hk => (World.ownsRow.lt HTW.out.1 k hk).1); have HB4 := hid hb4; have hs4 := hb4.size; obtain ⟨t4, l4⟩ := HCT.out w4 hb4; clear hown4 hg4 hat4 hb4)
          go_quiet (fail)
          obtain ⟨W5, hW5⟩ : ∃ W5, w4.drewN nq = W5 := ⟨_, rfl⟩
          have HT5 : Hid (TwoT W0.heap.size W5 u10 v4 ra (acc ++ [t])) := by rw [← hW5]; exact HT4.out
          have hb5 : Below W0.heap.size W0 W5 := by rw [← hW5]; exact bel_drewN HB4.out nq
          have HB5 := hid hb5
          have hs5 := hb5.size
          obtain ⟨t5, l5⟩ := HCT.out W5 hb5
          clear hb5
          rw [hW5]
          clear hW5
          go_wp2_with (at_builtin; refine wpList_append_own_at _ rfl _ _ 42 rfl W0.heap.size 9 i0 (.string ⟨#[]⟩) 1 16 Tryz.underlying42 HI.out hz0 hz1 hz2 rfl (by decide) _ _ _ rfl (World.ownsRow.alloc HT5.out.1 _) _ 1 1 [.string t] rfl rfl (fun j u hj => KT.news W5 t j u hj) (by intro u hu; simp at hu; subst hu; rfl) (by unfold maxLen; omega) (by omega) (by simp; omega) ?_; intro v6 w6 hown6 hg6 _ hat6; have HT6 := hid (TwoT.turn (TwoT.put HT5.out hown6 rfl rfl hg6 hat6)); have hb6 := (HB5.out.alloc hs5 (.cells #[.string t] 9)).grown hg6 (by simp; omega) (fun k hk => (World.ownsRow.lt HT5.out.1 k hk).1); have HB6 := hid hb6; clear hown6 hg6 hat6 hb6)
          go_roundg (old.length - (j + 1))
          case measure => omega
          refine ⟨j + 1, by go_num, by omega, by omega, ?_, HB6.out⟩
          rw [HRST.out, HST.out, if_neg HQ.out]
          exact HT6.out
      · have hljz : ¬ (j : Int) < (old.length : Int) := by omega
        have hjt : old.take j = old := List.take_of_length_le (by omega)
        rw [hjt] at HTW
        clear hjt
        obtain ⟨p11, c11, ha⟩ := own_slice HTW.out.1
        obtain ⟨p10, c10, hb⟩ := own_slice HTW.out.2.1
        subst ha hb
        have hrl := rest_len old xt
        have HDO5 : Hid (doE R (5, xf, xt) = if (restT old xt).length < old.length then (0, R) else (13, [])) := by show _ = _; rw [do_test, HOLD.out]
        have HDO3 : Hid (doE R (3, xf, xt) = if (restT old xt).length < old.length then (0, setF R xf (restT old xt)) else (6, [])) := by show _ = _; rw [do_drop, HOLD.out]
        have HDO2 : Hid (doE R (2, xf, xt) = (0, setF R xf (old ++ [xt]))) := by show _ = _; rw [do_add, HOLD.out]
        obtain ⟨rest, hrest⟩ : ∃ rest, restT old xt = rest := ⟨_, rfl⟩
        rw [hrest] at HTW hrl HDO5 HDO3 ⊢
        clear hrest hgj hj
        have hcs : xo = 1 ∨ xo = 2 ∨ xo = 3 ∨ xo = 4 ∨ xo = 5 := by omega
        obtain ⟨W1, rfl⟩ : ∃ W1, W1 = wr := ⟨_, rfl⟩
        rcases hcs with rfl | rfl | rfl | rfl | rfl
        · have HDO : Hid (doE R (1, xf, xt) = (0, setF R xf [xt])) := do_set _ _ _
          have hbd := HBJ.out.drew
          have hba := hbd.alloc (show W0.heap.size ≤ W1.drew.heap.size from hszj) (.cells #[.string xt] 9)
          have HBA : Hid (Below w.heap.size w (W1.drew.alloc (.cells #[.string xt] 9))) := bel_then HBO.out hsz hba
          have HW1 : Hid (Calls Tryz.prog 29 #[u7, .string xf, .slice (some ⟨W1.heap.size, 0, none⟩) 1 1] (W1.drew.alloc (.cells #[.string xt] 9)) fun e w' => WithPost (Far w.heap.size) (W1.drew.alloc (.cells #[.string xt] 9)) (setF R xf [xt]) e w') := HW.out _ (some ⟨W1.heap.size, 0, none⟩) 1 [xt] hba (txt_oneAt W1.drew xt) (fun b off hp => by cases hp; exact HBW.out.size)
          have q0 := (HCL.out W1.drew HBW.out.drew).2
          have q1 := (HCL.out _ HBA.out).2
          have hbs := HBA.out.size
          clear HDO3 HDO5 HDO2 hba hbd
          go_wp2_with fail
          refine wp_region_held_drew (S := fun W => W.cell? ⟨b, off + i * 3 + 1, none⟩ = some (.string xf) ∧ W.cell? ⟨b, off + i * 3 + 2, none⟩ = some (.string xt)) (by kernel_rfl) q0 (fun hHeld => ?_)
          refine take_val (i := 0) (u7) rfl (by kernel_rfl) (by kernel_rfl) (by kernel_rfl) (fun _ _ _ h => h) (by rfl) (fun w hSw => by go_simp) hHeld ?_
          simp only [Act.put, List.setIfInBounds_toArray, List.set_cons_zero, List.set_cons_succ]
          refine take_val (i := 1) (.slice (some ⟨b, off, none⟩) l.length cap) rfl (by kernel_rfl) (by kernel_rfl) (by kernel_rfl) (fun _ _ _ h => h) (by rfl) (fun w hSw => by go_simp) hHeld ?_
          simp only [Act.put, List.setIfInBounds_toArray, List.set_cons_zero, List.set_cons_succ]
          refine take_val (i := 2) (.int .i64 i) rfl (by kernel_rfl) (by kernel_rfl) (by kernel_rfl) (fun _ _ _ h => h) (by rfl) (fun w hSw => by go_simp) hHeld ?_
          simp only [Act.put, List.setIfInBounds_toArray, List.set_cons_zero, List.set_cons_succ]
          refine take_val (i := 3) (.pointer (some ⟨b, off + i * 3, none⟩)) rfl (by kernel_rfl) (by kernel_rfl) (by kernel_rfl) (fun _ _ _ h => h) (by rfl) (fun w hSw => by go_simp) hHeld ?_
          simp only [Act.put, List.setIfInBounds_toArray, List.set_cons_zero, List.set_cons_succ]
          refine take_val (i := 4) (.pointer (some ⟨b, off + i * 3 + 1, none⟩)) rfl (by kernel_rfl) (by kernel_rfl) (by kernel_rfl) (fun _ _ _ h => h) (by rfl) (fun w hSw => by go_simp) hHeld ?_
          simp only [Act.put, List.setIfInBounds_toArray, List.set_cons_zero, List.set_cons_succ]
          refine take_val (i := 5) (.string xf) rfl (by kernel_rfl) (by kernel_rfl) (by kernel_rfl) (fun _ _ _ h => h) (by rfl) (fun w hSw => by go_simp) hHeld ?_
          simp only [Act.put, List.setIfInBounds_toArray, List.set_cons_zero, List.set_cons_succ]
          refine take_val (i := 6) (.slice (some ⟨b, off, none⟩) l.length cap) rfl (by kernel_rfl) (by kernel_rfl) (by kernel_rfl) (fun _ _ _ h => h) (by rfl) (fun w hSw => by go_simp) hHeld ?_
          simp only [Act.put, List.setIfInBounds_toArray, List.set_cons_zero, List.set_cons_succ]
          refine take_val (i := 7) (.int .i64 i) rfl (by kernel_rfl) (by kernel_rfl) (by kernel_rfl) (fun _ _ _ h => h) (by rfl) (fun w hSw => by go_simp) hHeld ?_
          simp only [Act.put, List.setIfInBounds_toArray, List.set_cons_zero, List.set_cons_succ]
          refine take_val (i := 8) (.pointer (some ⟨b, off + i * 3, none⟩)) rfl (by kernel_rfl) (by kernel_rfl) (by kernel_rfl) (fun _ _ _ h => h) (by rfl) (fun w hSw => by go_simp) hHeld ?_
          simp only [Act.put, List.setIfInBounds_toArray, List.set_cons_zero, List.set_cons_succ]
          refine take_val (i := 9) (.pointer (some ⟨b, off + i * 3 + 2, none⟩)) rfl (by kernel_rfl) (by kernel_rfl) (by kernel_rfl) (fun _ _ _ h => h) (by rfl) (fun w hSw => by go_simp) hHeld ?_
          simp only [Act.put, List.setIfInBounds_toArray, List.set_cons_zero, List.set_cons_succ]
          refine take_val (i := 10) (.string xt) rfl (by kernel_rfl) (by kernel_rfl) (by kernel_rfl) (fun _ _ _ h => h) (by rfl) (fun w hSw => by go_simp) hHeld ?_
          simp only [Act.put, List.setIfInBounds_toArray, List.set_cons_zero, List.set_cons_succ]
          refine wpAnyH_ready (rs := [11]) (by kernel_rfl) (by simp) ?_
          refine AllReadyH.cons (at_drop0 rfl) (fun K hK => ?_) AllReadyH.nil
          rw [if_pos (by rfl)]
          go_simp
          refine hK.out _ _ q1 (fun hHeld => ?_)
          clear hK K
          try simp only [Act.put, List.setIfInBounds_toArray, List.set_cons_zero, List.set_cons_succ]
          refine wpAnyH_ready (rs := [12]) (by kernel_rfl) (by simp) ?_
          refine AllReadyH.cons (at_drop0 rfl) (fun K hK => ?_) AllReadyH.nil
          rw [if_pos (by rfl)]
          go_simp
          refine HW1.out.mono ?_
          rintro e w5 ⟨u5, o5, rfl, hi5, hm5, hb5⟩
          have hbw5 := bel_then HBA.out hbs hb5
          have HST5 : Hid (ASt w V l (i + 1) u5 w5) := HGO.out _ u5 o5 w5 HDO.out (hi5.1.is fun x hx => (hi5.2 x hx).1) (farV_row hi5.1 HBA.out.size fun x hx => (hi5.2 x hx).2) hm5 hbw5
          have q5 := (HCL.out w5 hbw5).2
          clear hi5 hm5 hb5 hbw5
          go_wp2_with fail
          refine hK.out _ _ q5 (fun hHeld => ?_)
          clear hK K
          try simp only [Act.put, List.setIfInBounds_toArray, List.set_cons_zero, List.set_cons_succ]
          refine take_val (i := 13) (u5) rfl (by kernel_rfl) (by kernel_rfl) (by kernel_rfl) (fun _ _ _ h => h) (by rfl) (fun w hSw => by go_simp) hHeld ?_
          simp only [Act.put, List.setIfInBounds_toArray, List.set_cons_zero, List.set_cons_succ]
          refine wpAnyH_done (by kernel_rfl) ?_ _
          go_wp2_with fail
          go_roundg (l.length - (i + 1))
          case measure => omega
          case rel => exact ⟨i + 1, by go_num, by omega, by omega, HST5⟩
        · have hbd := HBJ.out.drew
          have hbq := hbd.alloc (show W0.heap.size ≤ W1.drew.heap.size from hszj) (.cells #[.string xt] 9)
          have HBQ := hid hbq
          have HBA : Hid (Below w.heap.size w (W1.drew.alloc (.cells #[.string xt] 9))) := bel_then HBO.out hsz hbq
          have q0 := (HCL.out W1.drew HBW.out.drew).2
          have q1 := (HCL.out _ HBA.out).2
          have hol2 : old.length ≤ 1000 := by omega
          clear HDO3 HDO5 hbd hbq
          go_wp2_with fail
          refine wp_region_held_drew (S := fun W => W.cell? ⟨b, off + i * 3 + 1, none⟩ = some (.string xf) ∧ W.cell? ⟨b, off + i * 3 + 2, none⟩ = some (.string xt)) (by kernel_rfl) q0 (fun hHeld => ?_)
          refine take_val (i := 0) (u7) rfl (by kernel_rfl) (by kernel_rfl) (by kernel_rfl) (fun _ _ _ h => h) (by rfl) (fun w hSw => by go_simp) hHeld ?_
          simp only [Act.put, List.setIfInBounds_toArray, List.set_cons_zero, List.set_cons_succ]
          refine take_val (i := 1) (.slice (some ⟨b, off, none⟩) l.length cap) rfl (by kernel_rfl) (by kernel_rfl) (by kernel_rfl) (fun _ _ _ h => h) (by rfl) (fun w hSw => by go_simp) hHeld ?_
          simp only [Act.put, List.setIfInBounds_toArray, List.set_cons_zero, List.set_cons_succ]
          refine take_val (i := 2) (.int .i64 i) rfl (by kernel_rfl) (by kernel_rfl) (by kernel_rfl) (fun _ _ _ h => h) (by rfl) (fun w hSw => by go_simp) hHeld ?_
          simp only [Act.put, List.setIfInBounds_toArray, List.set_cons_zero, List.set_cons_succ]
          refine take_val (i := 3) (.pointer (some ⟨b, off + i * 3, none⟩)) rfl (by kernel_rfl) (by kernel_rfl) (by kernel_rfl) (fun _ _ _ h => h) (by rfl) (fun w hSw => by go_simp) hHeld ?_
          simp only [Act.put, List.setIfInBounds_toArray, List.set_cons_zero, List.set_cons_succ]
          refine take_val (i := 4) (.pointer (some ⟨b, off + i * 3 + 1, none⟩)) rfl (by kernel_rfl) (by kernel_rfl) (by kernel_rfl) (fun _ _ _ h => h) (by rfl) (fun w hSw => by go_simp) hHeld ?_
          simp only [Act.put, List.setIfInBounds_toArray, List.set_cons_zero, List.set_cons_succ]
          refine take_val (i := 5) (.string xf) rfl (by kernel_rfl) (by kernel_rfl) (by kernel_rfl) (fun _ _ _ h => h) (by rfl) (fun w hSw => by go_simp) hHeld ?_
          simp only [Act.put, List.setIfInBounds_toArray, List.set_cons_zero, List.set_cons_succ]
          refine take_val (i := 6) (.slice p11 old.length c11) rfl (by kernel_rfl) (by kernel_rfl) (by kernel_rfl) (fun _ _ _ h => h) (by rfl) (fun w hSw => by go_simp) hHeld ?_
          simp only [Act.put, List.setIfInBounds_toArray, List.set_cons_zero, List.set_cons_succ]
          refine take_val (i := 7) (.slice (some ⟨b, off, none⟩) l.length cap) rfl (by kernel_rfl) (by kernel_rfl) (by kernel_rfl) (fun _ _ _ h => h) (by rfl) (fun w hSw => by go_simp) hHeld ?_
          simp only [Act.put, List.setIfInBounds_toArray, List.set_cons_zero, List.set_cons_succ]
          refine take_val (i := 8) (.int .i64 i) rfl (by kernel_rfl) (by kernel_rfl) (by kernel_rfl) (fun _ _ _ h => h) (by rfl) (fun w hSw => by go_simp) hHeld ?_
          simp only [Act.put, List.setIfInBounds_toArray, List.set_cons_zero, List.set_cons_succ]
          refine take_val (i := 9) (.pointer (some ⟨b, off + i * 3, none⟩)) rfl (by kernel_rfl) (by kernel_rfl) (by kernel_rfl) (fun _ _ _ h => h) (by rfl) (fun w hSw => by go_simp) hHeld ?_
          simp only [Act.put, List.setIfInBounds_toArray, List.set_cons_zero, List.set_cons_succ]
          refine take_val (i := 10) (.pointer (some ⟨b, off + i * 3 + 2, none⟩)) rfl (by kernel_rfl) (by kernel_rfl) (by kernel_rfl) (fun _ _ _ h => h) (by rfl) (fun w hSw => by go_simp) hHeld ?_
          simp only [Act.put, List.setIfInBounds_toArray, List.set_cons_zero, List.set_cons_succ]
          refine take_val (i := 11) (.string xt) rfl (by kernel_rfl) (by kernel_rfl) (by kernel_rfl) (fun _ _ _ h => h) (by rfl) (fun w hSw => by go_simp) hHeld ?_
          simp only [Act.put, List.setIfInBounds_toArray, List.set_cons_zero, List.set_cons_succ]
          refine wpAnyH_ready (rs := [12]) (by kernel_rfl) (by simp) ?_
          refine AllReadyH.cons (at_drop0 rfl) (fun K hK => ?_) AllReadyH.nil
          rw [if_pos (by rfl)]
          go_simp
          refine hK.out _ _ q1 (fun hHeld => ?_)
          clear hK K
          try simp only [Act.put, List.setIfInBounds_toArray, List.set_cons_zero, List.set_cons_succ]
          refine wpAnyH_ready (rs := [13]) (by kernel_rfl) (by simp) ?_
          refine AllReadyH.cons (at_drop0 rfl) (fun K hK => ?_) AllReadyH.nil
          refine step_append_lies _ (by rfl) (.tmp 100) (.tmp 106) 42 (by rfl) W0.heap.size 9 i0 (.string ⟨#[]⟩) 1 16 Tryz.underlying42 HI.out hz0 hz1 hz2 rfl (by decide) (.slice p11 old.length c11) old.length (old.map Value.string) (by rfl) (World.ownsRow.alloc (w := W1.drew) HTW.out.1 _) ⟨W1.heap.size, 0, none⟩ 1 1 [.string xt] (by rfl) rfl (fun j u hj => KT.news W1.drew xt j u hj) (by intro u hu; simp at hu; subst hu; rfl) (by decide) (by unfold maxLen; omega) (by omega) (by simp; omega) _ rfl ?_
          intro g4 cap4 w4 hown4 hg4 _ _
          have hb4 : Below W0.heap.size W0 w4 := HBQ.out.grown hg4 (by simp; omega) (fun k hk => (World.ownsRow.lt HTW.out.1 k hk).1)
          have ho4 : OwnT W0.heap.size w4 (.slice (some ⟨g4, 0, none⟩) (old ++ [xt]).length cap4) (old ++ [xt]) := by
            show w4.ownsRow _ _ _ _ _ _
            rw [List.length_append, List.map_append]
            exact hown4
          have HW4 : Hid (Calls Tryz.prog 29 #[u7, .string xf, .slice (some ⟨g4, 0, none⟩) (old.length + 1) cap4] w4 fun e w' => WithPost (Far w.heap.size) w4 (setF R xf (old ++ [xt])) e w') := by
            have := HW.out w4 (some ⟨g4, 0, none⟩) cap4 (old ++ [xt]) hb4 ho4.txtAt (far_own ho4 hsz)
            rw [List.length_append, List.length_singleton] at this
            exact this
          have hbw4 := bel_then HBO.out hsz hb4
          have HB4 := hid hbw4
          have q4 := (HCL.out w4 hbw4).2
          have hbs := hbw4.size
          clear hown4 hg4 hb4 ho4 hbw4
          refine hK.out _ _ q4 (fun hHeld => ?_)
          clear hK K
          try simp only [Act.put, List.setIfInBounds_toArray, List.set_cons_zero, List.set_cons_succ]
          refine wpAnyH_ready (rs := [14]) (by kernel_rfl) (by simp) ?_
          refine AllReadyH.cons (at_drop0 rfl) (fun K hK => ?_) AllReadyH.nil
          rw [if_pos (by rfl)]
          go_simp
          refine HW4.out.mono ?_
          rintro e w5 ⟨u5, o5, rfl, hi5, hm5, hb5⟩
          have hbw5 := bel_then HB4.out hbs hb5
          have HST5 : Hid (ASt w V l (i + 1) u5 w5) := HGO.out _ u5 o5 w5 HDO2.out (hi5.1.is fun x hx => (hi5.2 x hx).1) (farV_row hi5.1 HB4.out.size fun x hx => (hi5.2 x hx).2) hm5 hbw5
          have q5 := (HCL.out w5 hbw5).2
          clear hi5 hm5 hb5 hbw5
          go_wp2_with fail
          refine hK.out _ _ q5 (fun hHeld => ?_)
          clear hK K
          try simp only [Act.put, List.setIfInBounds_toArray, List.set_cons_zero, List.set_cons_succ]
          refine take_val (i := 15) (u5) rfl (by kernel_rfl) (by kernel_rfl) (by kernel_rfl) (fun _ _ _ h => h) (by rfl) (fun w hSw => by go_simp) hHeld ?_
          simp only [Act.put, List.setIfInBounds_toArray, List.set_cons_zero, List.set_cons_succ]
          refine wpAnyH_done (by kernel_rfl) ?_ _
          go_wp2_with fail
          go_roundg (l.length - (i + 1))
          case measure => omega
          case rel => exact ⟨i + 1, by go_num, by omega, by omega, HST5⟩
        · by_cases hmet : rest.length < old.length
          · have hmz : (rest.length : Int) < (old.length : Int) := by omega
            have HDO := HDO3
            rw [if_pos hmet] at HDO
            have HW3 := hid (HW.out W1 p10 c10 rest HBJ.out (OwnT.txtAt HTW.out.2.1) (far_own HTW.out.2.1 hsz))
            clear hmet HDO3 HDO5 HDO2
            go_wp2_with (first | (go_at_call 29; refine HW3.out.mono ?_; rintro e w5 ⟨u5, o5, rfl, hi5, hm5, hb5⟩; have HST5 : Hid (ASt w V l (i + 1) u5 w5) := HGO.out _ u5 o5 w5 HDO.out (hi5.1.is fun x hx => (hi5.2 x hx).1) (farV_row hi5.1 HBW.out.size fun x hx => (hi5.2 x hx).2) hm5 (bel_then HBW.out HBW.out.size hb5); clear hi5 hm5 hb5))
            go_roundg (l.length - (i + 1))
            case measure => omega
            case rel => exact ⟨i + 1, by go_num, by omega, by omega, HST5⟩
          · have hmz : ¬ (rest.length : Int) < (old.length : Int) := by omega
            have HDO := HDO3
            rw [if_neg hmet] at HDO
            have HC := hid (HSTOP.out 6 HDO.out (by decide))
            clear hmet HDO3 HDO5 HDO2
            go_wp2_with fail
            go_ret2
            exact ap_no HC.out (by decide) rfl HBW.out
        · have HDO : Hid (doE R (4, xf, xt) = (0, setF R xf [])) := do_wipe _ _ _
          have HW4 : Hid (Calls Tryz.prog 29 #[u7, .string xf, .slice none 0 0] W1 fun e w' => WithPost (Far w.heap.size) W1 (setF R xf []) e w') := HW.out W1 none 0 [] HBJ.out (Or.inl rfl) (fun b off hp => by cases hp)
          clear HDO3 HDO5 HDO2
          go_wp2_with (first | (go_at_call 29; refine HW4.out.mono ?_; rintro e w5 ⟨u5, o5, rfl, hi5, hm5, hb5⟩; have HST5 : Hid (ASt w V l (i + 1) u5 w5) := HGO.out _ u5 o5 w5 HDO.out (hi5.1.is fun x hx => (hi5.2 x hx).1) (farV_row hi5.1 HBW.out.size fun x hx => (hi5.2 x hx).2) hm5 (bel_then HBW.out HBW.out.size hb5); clear hi5 hm5 hb5))
          go_roundg (l.length - (i + 1))
          case measure => omega
          case rel => exact ⟨i + 1, by go_num, by omega, by omega, HST5⟩
        · by_cases hmet : rest.length < old.length
          · have hmz : (rest.length : Int) < (old.length : Int) := by omega
            have HDO := HDO5
            rw [if_pos hmet] at HDO
            have HST5 : Hid (ASt w V l (i + 1) u7 W1) := HGO.out _ u7 o W1 HDO.out (HIO.out.kept HBJ.out) HFV.out HRR.out HBW.out
            clear hmet HDO3 HDO5 HDO2
            go_wp2_with fail
            go_roundg (l.length - (i + 1))
            case measure => omega
            case rel => exact ⟨i + 1, by go_num, by omega, by omega, HST5⟩
          · have hmz : ¬ (rest.length : Int) < (old.length : Int) := by omega
            have HDO := HDO5
            rw [if_neg hmet] at HDO
            have HC := hid (HSTOP.out 13 HDO.out (by decide))
            clear hmet HDO3 HDO5 HDO2
            go_wp2_with fail
            go_ret2
            exact ap_no HC.out (by decide) rfl HBW.out
    · have hltz : ¬ (i : Int) < (l.length : Int) := by omega
      have hdn : l.drop i = [] := List.drop_eq_nil_iff.2 (by omega)
      rw [hdn, runE] at hrun
      have HM := hid (rmay_any u7 o wr hio (okR_fit hok (by omega)))
      have HIO := hid hio
      have HBO := hid hbo
      have HRUN := hid hrun
      clear hdn hio hok hrun hbo
      cases hmr : mayB (o.map Fx.fld) with
      | false =>
        rw [hmr] at HM
        have HC : Hid (codeA V l = 5) := by refine codeA_long H1.out H2.out ?_ ?_ <;> rw [HRUN.out]; exact hmr
        clear hmr
        go_wp2_with (first | (go_at_call 26; refine HM.out.mono ?_; rintro e w1 ⟨rfl, hg1⟩))
        go_ret2
        exact ap_no HC.out (by decide) rfl (bel_then HBO.out HBO.out.size hg1.below)
      | true =>
        rw [hmr] at HM
        have HC : Hid (codeA V l = 0) := by refine codeA_of H1.out H2.out ?_ ?_ <;> rw [HRUN.out]; exact hmr
        clear hmr
        go_wp2_with (first | (go_at_call 26; refine HM.out.mono ?_; rintro e w1 ⟨rfl, hg1⟩))
        go_ret2
        refine ⟨_, o, by rw [HC.out]; rfl, ⟨HIO.out.kept hg1.below, HFV.out⟩, ?_, bel_then HBO.out HBO.out.size hg1.below⟩
        unfold ansA
        rw [if_pos HC.out, HRUN.out]
  · have HC : Hid (codeA V l = mayE l) := by show _ = _; rw [← hV]; exact codeA_may hmv hme
    rw [hV]
    have hne : (mayE l != 0) = true := by rw [bne_iff_ne]; exact hme
    have HNE := hid hme
    obtain ⟨r, hr⟩ : ∃ r, mayE l = r := ⟨_, rfl⟩
    rw [hr] at hne HC HME HNE
    clear hmv hme hV hv hf hu hfl hi0 hr
    go_enter Tryz.func11, Tryz.ntmps11
    go_wp2_with (first
      | (go_at_call 26; refine HMV.out.mono ?_; rintro e w1 ⟨rfl, hg1⟩; have hb1 := hg1.below; clear hg1)
      | (go_at_call 14; refine (HME.out _ hb1).mono ?_; rintro e w2 ⟨rfl, q2⟩; have hb2 := hb1; rw [← q2] at hb2; clear q2))
    go_ret2
    exact ap_no HC.out HNE.out rfl hb2

theorem rapply_any (v u : Value) (d : List Fx) (l : List Ed) (w : World) (hv : IsXs w v d) (hf : FitX d) (hu : KE.Is w u l) (hfl : FitE l) :
    Calls Tryz.prog 11 #[v, u] w fun e w' => ApPost w (d.map Fx.fld) l e w' := (rapply_far v u d l w hv hf hu hfl).mono fun _ _ h => h.plain

end Go.Proofs.YtelcongbnmfegaaGreatDoor

/-
  The contract of the reference's Print of edits.
-/
namespace Go.Proofs.YtelcongbnmfegaaGreatDoor
open Go.RowKit Go.Lib

set_option maxHeartbeats 8000000 in
set_option maxRecDepth 100000 in
theorem rprintE_any (v : Value) (p : List Ed) (w : World) (hv : KE.Is w v p) (hf : FitE p) :
    Calls Tryz.prog 20 #[v] w fun e w' => e = .returned (.tuple #[.string (prE p), .int .i64 (mayE p)]) ∧ Below w.heap.size w w' := by
  have HM : Hid (Calls Tryz.prog 14 #[v] w fun e w' => e = .returned (.int .i64 (mayE p)) ∧ w = w') := (rmayE_any v p w hv hf).mono fun e w' h => ⟨h.1, h.2.symm⟩
  by_cases hm : mayE p = 0
  · rw [hm] at HM
    obtain ⟨hl16, hn, hr, hs⟩ := mayE_zero hm
    have HN := hid hn
    have HS := hid hs
    have HP : Hid (prE p = lineB (p.map wordE)) := by show _ = _; unfold prE lineE; rw [if_pos hm]
    have HZ0 := hid hm
    obtain ⟨q, cap, rfl, hd⟩ := hv
    have HD := hid hd
    clear hm hn hr hs hf hd
    go_enter Tryz.func20, Tryz.ntmps20
    go_wp2_with (first | (go_at_call 14; refine HM.out.mono ?_; rintro e w1 ⟨rfl, rfl⟩))
    go_loopg [5, 6] p.length (fun g vs vi wr => ∃ i : Nat, vi = .int .i64 i ∧ i ≤ p.length ∧ p.length - i ≤ g ∧ Hid (Below w.heap.size w wr) ∧ vs = .string (lineB ((p.take i).map wordE)))
    case atStart => exact ⟨0, rfl, by omega, by omega, Below.refl _ _, rfl⟩
    case round =>
      obtain ⟨i, rfl, hi, hgk, HB, rfl⟩ := hrel
      by_cases hlt : i < p.length
      · have hltz : (i : Int) < (p.length : Int) := by omega
        have hiz : (0 : Int) ≤ i := by omega
        obtain ⟨b, off, rfl, hat⟩ : ∃ b off, q = some ⟨b, off, none⟩ ∧ KE.At w b off p := by
          rcases HD.out with h | h
          · subst h; simp at hlt
          · exact h
        have hkc : ∀ W, Below w.heap.size w W → W.cell? ⟨b, off + i * 3, none⟩ = some (.int .i64 (p[i]).1) ∧ W.cell? ⟨b, off + i * 3 + 1, none⟩ = some (.string (p[i]).2.1) ∧ W.cell? ⟨b, off + i * 3 + 2, none⟩ = some (.string (p[i]).2.2) := fun W hW => ke_cells (Kind.at_kept hat hW) i hlt
        have hn := HN.out _ (List.getElem_mem hlt)
        have hs := HS.out _ (List.getElem_mem hlt)
        have hns := fieldB_len hn
        have hss := of_decide_eq_true hs
        have htk : (p.take (i + 1)).map wordE = (p.take i).map wordE ++ [wordE p[i]] := by
          rw [List.take_succ_eq_append_getElem hlt, List.map_append]; simp
        have has : ∀ y ∈ (p.take i).map wordE, y.size ≤ 418 := fun y hy => by
          obtain ⟨t, ht, rfl⟩ := List.mem_map.1 hy
          have hm := List.mem_of_mem_take ht
          exact wordE_len (HN.out t hm) (HS.out t hm)
        have hls := lineE_size (ws := (p.take i).map wordE) (by simp; omega) has
        obtain ⟨x, hx⟩ : ∃ x, p[i] = x := ⟨_, rfl⟩
        rw [hx] at hkc hns hss htk
        obtain ⟨xo, xf, xt⟩ := x
        simp only at hkc hns hss
        have hns2 : xf.size ≤ 32 := by simpa using hns
        have hsg := sign_size xo
        obtain ⟨S1, hS1, hS1s, hkey⟩ : ∃ S1 : ByteArray, S1 = (if i = 0 then ⟨#[]⟩ else lineB ((p.take i).map wordE) ++ ⟨#[32]⟩) ∧ S1.size ≤ 6705 ∧ lineB ((p.take (i + 1)).map wordE) = S1 ++ xf ++ signS xo ++ ⟨(writeL xt.data.toList).toArray⟩ := by
          refine ⟨_, rfl, ?_, ?_⟩
          · split
            · exact Nat.zero_le _
            · rw [ByteArray.size_append]; show _ + 1 ≤ _; omega
          · rw [htk]
            split
            · rename_i h; subst h; exact lineE_first _
            · rename_i h
              refine lineE_next (fun e => h ?_) _
              have := congrArg List.length e
              rw [List.length_map, List.length_take, List.length_nil] at this
              omega
        have HKC := hid hkc
        have HS1 := hid hS1
        have HNX := hid hkey
        have HZ : Hid (i = 0 → lineB ((p.take i).map wordE) = ⟨#[]⟩) := fun e => by rw [e]; rfl
        clear hat hn hs hx htk has hkey hS1 hkc hns
        obtain ⟨S, hS⟩ : ∃ S, lineB ((p.take i).map wordE) = S := ⟨_, rfl⟩
        rw [hS] at hls HS1 HZ ⊢
        clear hS
        go_upto_if 19 with fail
        go_cut [5] from 12 to 42 (fun vs wx => wr = wx ∧ vs = .string S1)
        case first =>
          by_cases h0 : i = 0
          · have E1 : Hid (S = S1) := by show _ = _; rw [HS1.out, if_pos h0, HZ.out h0]
            have hz : ¬ ((0 : Int) < (i : Int)) := by omega
            clear h0
            go_wp2_with fail
            go_meet
            case rel => exact ⟨rfl, by rw [E1.out]⟩
          · have e1 : S1 = S ++ ⟨#[32]⟩ := by rw [HS1.out, if_neg h0]
            have hz : (0 : Int) < (i : Int) := by omega
            have hA : ∀ w, Sem.run Tryz.prog (Op.stringOp .add S ⟨#[32]⟩) w = .ok (.string S1) w := fun w => by rw [e1]; exact run_string_add_sum _ _ _ (by show S.size + 1 ≤ _; omega)
            clear e1 h0
            go_wp2_with fail
            go_meet
            case rel => exact ⟨rfl, rfl⟩
        case rest =>
          obtain ⟨rfl, rfl⟩ := hcut
          have hwl2 := writeL_len xt.data.toList
          have hwl3 : xt.data.toList.length = xt.size := by simp
          have HW := hid (fun W => rwrite_any xt W (by omega))
          have HG : Hid (∀ W, Calls Tryz.prog 41 #[.int .i64 xo] W fun e w' => e = .returned (.string (signS xo)) ∧ W = w') := fun W => (rsign_any xo W).mono fun e w' h => ⟨h.1, h.2.symm⟩
          obtain ⟨sg, hsg2⟩ : ∃ sg, signS xo = sg := ⟨_, rfl⟩
          rw [hsg2] at hsg HG HNX
          obtain ⟨wt, hwt⟩ : ∃ wt : ByteArray, ⟨(writeL xt.data.toList).toArray⟩ = wt := ⟨_, rfl⟩
          have hwts : wt.size ≤ 384 := by rw [← hwt]; show (writeL xt.data.toList).toArray.size ≤ 384; rw [List.size_toArray]; omega
          rw [hwt] at HW HNX
          obtain ⟨S2, hS2⟩ : ∃ S2 : ByteArray, S1 ++ xf = S2 := ⟨_, rfl⟩
          have hS2s : S2.size ≤ 6737 := by rw [← hS2, ByteArray.size_append]; omega
          obtain ⟨S3, hS3⟩ : ∃ S3 : ByteArray, S2 ++ sg = S3 := ⟨_, rfl⟩
          have hS3s : S3.size ≤ 6739 := by rw [← hS3, ByteArray.size_append]; omega
          obtain ⟨S4, hS4⟩ : ∃ S4 : ByteArray, S3 ++ wt = S4 := ⟨_, rfl⟩
          rw [hS2, hS3, hS4] at HNX
          have hA : ∀ w, Sem.run Tryz.prog (Op.stringOp .add S1 xf) w = .ok (.string S2) w := fun w => by rw [← hS2]; exact run_string_add_sum _ _ _ (by omega)
          have hB : ∀ w, Sem.run Tryz.prog (Op.stringOp .add S2 sg) w = .ok (.string S3) w := fun w => by rw [← hS3]; exact run_string_add_sum _ _ _ (by omega)
          have hC : ∀ w, Sem.run Tryz.prog (Op.stringOp .add S3 wt) w = .ok (.string S4) w := fun w => by rw [← hS4]; exact run_string_add_sum _ _ _ (by omega)
          have q0 := HKC.out _ HB.out.drew
          have hsz : w.heap.size ≤ wr.drew.heap.size := HB.out.size
          clear hwl2 hwl3 hwt hS2 hS3 hS4 hwts hS2s hS3s hS1s hls hss hns2 hsg hsg2
          go_wp2_with fail
          refine wp_region_held_drew (S := fun W => W.cell? ⟨b, off + i * 3, none⟩ = some (.int .i64 xo) ∧ W.cell? ⟨b, off + i * 3 + 1, none⟩ = some (.string xf) ∧ W.cell? ⟨b, off + i * 3 + 2, none⟩ = some (.string xt)) (by kernel_rfl) q0 (fun hHeld => ?_)
          refine take_val (i := 0) (.string S1) rfl (by kernel_rfl) (by kernel_rfl) (by kernel_rfl) (fun _ _ _ h => h) (by rfl) (fun w hSw => by go_simp) hHeld ?_
          simp only [Act.put, List.setIfInBounds_toArray, List.set_cons_zero, List.set_cons_succ]
          refine take_val (i := 1) (.slice (some ⟨b, off, none⟩) p.length cap) rfl (by kernel_rfl) (by kernel_rfl) (by kernel_rfl) (fun _ _ _ h => h) (by rfl) (fun w hSw => by go_simp) hHeld ?_
          simp only [Act.put, List.setIfInBounds_toArray, List.set_cons_zero, List.set_cons_succ]
          refine take_val (i := 2) (.int .i64 i) rfl (by kernel_rfl) (by kernel_rfl) (by kernel_rfl) (fun _ _ _ h => h) (by rfl) (fun w hSw => by go_simp) hHeld ?_
          simp only [Act.put, List.setIfInBounds_toArray, List.set_cons_zero, List.set_cons_succ]
          refine take_val (i := 3) (.pointer (some ⟨b, off + i * 3, none⟩)) rfl (by kernel_rfl) (by kernel_rfl) (by kernel_rfl) (fun _ _ _ h => h) (by rfl) (fun w hSw => by go_simp) hHeld ?_
          simp only [Act.put, List.setIfInBounds_toArray, List.set_cons_zero, List.set_cons_succ]
          refine take_val (i := 4) (.pointer (some ⟨b, off + i * 3 + 1, none⟩)) rfl (by kernel_rfl) (by kernel_rfl) (by kernel_rfl) (fun _ _ _ h => h) (by rfl) (fun w hSw => by go_simp) hHeld ?_
          simp only [Act.put, List.setIfInBounds_toArray, List.set_cons_zero, List.set_cons_succ]
          refine take_val (i := 5) (.string xf) rfl (by kernel_rfl) (by kernel_rfl) (by kernel_rfl) (fun _ _ _ h => h) (by rfl) (fun w hSw => by go_simp) hHeld ?_
          simp only [Act.put, List.setIfInBounds_toArray, List.set_cons_zero, List.set_cons_succ]
          refine take_val (i := 6) (.string S2) rfl (by kernel_rfl) (by kernel_rfl) (by kernel_rfl) (fun _ _ _ h => h) (by rfl) (fun w hSw => by go_simp) hHeld ?_
          simp only [Act.put, List.setIfInBounds_toArray, List.set_cons_zero, List.set_cons_succ]
          refine take_val (i := 7) (.slice (some ⟨b, off, none⟩) p.length cap) rfl (by kernel_rfl) (by kernel_rfl) (by kernel_rfl) (fun _ _ _ h => h) (by rfl) (fun w hSw => by go_simp) hHeld ?_
          simp only [Act.put, List.setIfInBounds_toArray, List.set_cons_zero, List.set_cons_succ]
          refine take_val (i := 8) (.int .i64 i) rfl (by kernel_rfl) (by kernel_rfl) (by kernel_rfl) (fun _ _ _ h => h) (by rfl) (fun w hSw => by go_simp) hHeld ?_
          simp only [Act.put, List.setIfInBounds_toArray, List.set_cons_zero, List.set_cons_succ]
          refine take_val (i := 9) (.pointer (some ⟨b, off + i * 3, none⟩)) rfl (by kernel_rfl) (by kernel_rfl) (by kernel_rfl) (fun _ _ _ h => h) (by rfl) (fun w hSw => by go_simp) hHeld ?_
          simp only [Act.put, List.setIfInBounds_toArray, List.set_cons_zero, List.set_cons_succ]
          refine take_val (i := 10) (.pointer (some ⟨b, off + i * 3, none⟩)) rfl (by kernel_rfl) (by kernel_rfl) (by kernel_rfl) (fun _ _ _ h => h) (by rfl) (fun w hSw => by go_simp) hHeld ?_
          simp only [Act.put, List.setIfInBounds_toArray, List.set_cons_zero, List.set_cons_succ]
          refine take_val (i := 11) (.int .i64 xo) rfl (by kernel_rfl) (by kernel_rfl) (by kernel_rfl) (fun _ _ _ h => h) (by rfl) (fun w hSw => by go_simp) hHeld ?_
          simp only [Act.put, List.setIfInBounds_toArray, List.set_cons_zero, List.set_cons_succ]
          refine take_val (i := 14) (.slice (some ⟨b, off, none⟩) p.length cap) rfl (by kernel_rfl) (by kernel_rfl) (by kernel_rfl) (fun _ _ _ h => h) (by rfl) (fun w hSw => by go_simp) hHeld ?_
          simp only [Act.put, List.setIfInBounds_toArray, List.set_cons_zero, List.set_cons_succ]
          refine take_val (i := 15) (.int .i64 i) rfl (by kernel_rfl) (by kernel_rfl) (by kernel_rfl) (fun _ _ _ h => h) (by rfl) (fun w hSw => by go_simp) hHeld ?_
          simp only [Act.put, List.setIfInBounds_toArray, List.set_cons_zero, List.set_cons_succ]
          refine take_val (i := 16) (.pointer (some ⟨b, off + i * 3, none⟩)) rfl (by kernel_rfl) (by kernel_rfl) (by kernel_rfl) (fun _ _ _ h => h) (by rfl) (fun w hSw => by go_simp) hHeld ?_
          simp only [Act.put, List.setIfInBounds_toArray, List.set_cons_zero, List.set_cons_succ]
          refine take_val (i := 17) (.pointer (some ⟨b, off + i * 3 + 2, none⟩)) rfl (by kernel_rfl) (by kernel_rfl) (by kernel_rfl) (fun _ _ _ h => h) (by rfl) (fun w hSw => by go_simp) hHeld ?_
          simp only [Act.put, List.setIfInBounds_toArray, List.set_cons_zero, List.set_cons_succ]
          refine take_val (i := 18) (.string xt) rfl (by kernel_rfl) (by kernel_rfl) (by kernel_rfl) (fun _ _ _ h => h) (by rfl) (fun w hSw => by go_simp) hHeld ?_
          simp only [Act.put, List.setIfInBounds_toArray, List.set_cons_zero, List.set_cons_succ]
          refine wpAnyH_ready (rs := [12]) (by kernel_rfl) (by simp) ?_
          refine AllReadyH.cons (at_drop0 rfl) (fun K hK => ?_) AllReadyH.nil
          rw [if_pos (by rfl)]
          go_simp
          refine (HG.out _).mono ?_
          rintro e w5 ⟨rfl, rfl⟩
          go_wp2_with fail
          refine hK.out _ _ q0 (fun hHeld => ?_)
          clear hK K
          try simp only [Act.put, List.setIfInBounds_toArray, List.set_cons_zero, List.set_cons_succ]
          refine take_val (i := 13) (.string S3) rfl (by kernel_rfl) (by kernel_rfl) (by kernel_rfl) (fun _ _ _ h => h) (by rfl) (fun w hSw => by go_simp) hHeld ?_
          simp only [Act.put, List.setIfInBounds_toArray, List.set_cons_zero, List.set_cons_succ]
          refine wpAnyH_ready (rs := [19]) (by kernel_rfl) (by simp) ?_
          refine AllReadyH.cons (at_drop0 rfl) (fun K hK => ?_) AllReadyH.nil
          rw [if_pos (by rfl)]
          go_simp
          refine (HW.out _).mono ?_
          rintro e w6 ⟨rfl, hb6⟩
          have hbw6 := bel_then HB.out.drew hsz hb6
          have HB6 := hid hbw6
          have q6 := HKC.out _ hbw6
          clear hb6 hbw6
          go_wp2_with fail
          refine hK.out _ _ q6 (fun hHeld => ?_)
          clear hK K
          try simp only [Act.put, List.setIfInBounds_toArray, List.set_cons_zero, List.set_cons_succ]
          refine take_val (i := 20) (.string S4) rfl (by kernel_rfl) (by kernel_rfl) (by kernel_rfl) (fun _ _ _ h => h) (by rfl) (fun w hSw => by go_simp) hHeld ?_
          simp only [Act.put, List.setIfInBounds_toArray, List.set_cons_zero, List.set_cons_succ]
          refine take_val (i := 21) (.string S4) rfl (by kernel_rfl) (by kernel_rfl) (by kernel_rfl) (fun _ _ _ h => h) (by rfl) (fun w hSw => by go_simp) hHeld ?_
          simp only [Act.put, List.setIfInBounds_toArray, List.set_cons_zero, List.set_cons_succ]
          refine wpAnyH_done (by kernel_rfl) ?_ _
          go_wp2_with fail
          go_roundg (p.length - (i + 1))
          case measure => omega
          case rel => exact ⟨i + 1, by go_num, by omega, by omega, HB6, by rw [HNX.out]⟩
      · have hltz : ¬ (i : Int) < (p.length : Int) := by omega
        have htk2 : p.take i = p := List.take_of_length_le (by omega)
        rw [htk2]
        clear htk2
        go_wp2_with fail
        go_ret2
        exact ⟨by rw [HZ0.out, HP.out]; rfl, HB.out⟩
  · have hne : (mayE p != 0) = true := by rw [bne_iff_ne]; exact hm
    have HA : Hid (prE p = ⟨#[]⟩) := by show _ = _; unfold prE; rw [if_neg hm]
    obtain ⟨r, hr⟩ : ∃ r, mayE p = r := ⟨_, rfl⟩
    rw [hr] at hne HM
    have HR := hid hr
    clear hm hr hv hf
    go_enter Tryz.func20, Tryz.ntmps20
    go_wp2_with (first | (go_at_call 14; refine HM.out.mono ?_; rintro e w1 ⟨rfl, rfl⟩))
    go_ret2
    exact ⟨by rw [HR.out, HA.out]; rfl, Below.refl _ _⟩

end Go.Proofs.YtelcongbnmfegaaGreatDoor

/-
  The contracts of package patch, in the form that the walks take.
-/
namespace Go.Proofs.YtelcongbnmfegaaGreatDoor
open Go.RowKit

/-- What the package's functions want of the variables: the table of plain bytes. -/
def GoodAt (w : World) : Prop := PlainAt w
theorem GoodAt.on {w w' : World} (h : GoodAt w) (hb : Below w.heap.size w w') : GoodAt w' := PlainAt.on h hb

theorem pmayE_any (v : Value) (l : List Ed) (w : World) (hv : KE.Is w v l) (hf : FitE l) (_hp : GoodAt w) : Calls Tryz.prog 13 #[v] w fun e w' => e = .returned (.int .i64 (mayE l)) ∧ Below w.heap.size w w' := pmayE_raw v l w hv hf

theorem papply_any (v u : Value) (d : List Fx) (l : List Ed) (w : World) (hv : IsXs w v d) (hf : FitX d) (hu : KE.Is w u l) (hfl : FitE l) (_hp : GoodAt w) :
    Calls Tryz.prog 10 #[v, u] w fun e w' => ApPost w (d.map Fx.fld) l e w' :=
  (papply_mine v u d l w hv hf hu hfl).mono fun _ _ h => by
    obtain ⟨u, o, h1, h2, h3, h4⟩ := h
    exact ⟨u, o, h1, h2.1.is, h3, h4⟩

theorem pdiff_any (va vb : Value) (da db : List Fx) (w : World) (ha : IsXs w va da) (hb : IsXs w vb db) (hfa : FitX da) (hfb : FitX db) (_hp : GoodAt w) :
    Calls Tryz.prog 15 #[va, vb] w fun e w' => DiPost w (da.map Fx.fld) (db.map Fx.fld) e w' := pdiff_plain va vb da db w ha hb hfa hfb

theorem pprintE_any (v : Value) (p : List Ed) (w : World) (hv : KE.Is w v p) (hf : FitE p) (hp : GoodAt w) :
    Calls Tryz.prog 19 #[v] w fun e w' => e = .returned (.tuple #[.string (prE p), .int .i64 (mayE p)]) ∧ Below w.heap.size w w' := pprintE_plain v p w hp hv hf

theorem pparseE_any (s : ByteArray) (w : World) (hs : s.size ≤ 4294967000) (hp : GoodAt w) :
    Calls Tryz.prog 21 #[.string s] w fun e w' => EWPost w (editsW (wordsAns s.data.toList)) e w' := pparseE_plain s w hp hs

end Go.Proofs.YtelcongbnmfegaaGreatDoor
