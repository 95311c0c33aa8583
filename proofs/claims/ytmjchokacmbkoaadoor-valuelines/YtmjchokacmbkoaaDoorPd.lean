/-
  Texts of this claim, one behind the other: Lin0 Rpr Lin.
-/
import Derived.Test.YtmjchokacmbkoaaDoorPc
import Derived.Deep.CutRange
/-
  A value's line is read back as the value.
-/
namespace Go.Proofs.YtmjchokacmbkoaaDoor
open Go.RowKit Go.Lib

theorem ix_here {a b : List UInt8} {c : UInt8} (h : c ∉ a) : Lib.indexByte (a ++ c :: b) c = (a.length : Int) := by
  rcases ix_cases (a ++ c :: b) c with ⟨_, h2⟩ | ⟨i, h1, h2, h3, h4⟩
  · exact absurd (by simp) h2
  · have h5 := ix_split _ c i h2 h3
    have := (ix_uniq h5 h h4).1
    rw [h1, this, List.length_take]
    omega

theorem ix_none {a : List UInt8} {c : UInt8} (h : c ∉ a) : Lib.indexByte a c = -1 := by
  rcases ix_cases a c with ⟨h1, _⟩ | ⟨i, _, h2, h3, _⟩
  · exact h1
  · exact absurd (List.mem_of_getElem? h3) h

theorem split_join : ∀ ws : List (List UInt8), ws ≠ [] → (∀ w ∈ ws, (32 : UInt8) ∉ w) → splitL (Lib.join ws [32]) = ws
  | [], h, _ => absurd rfl h
  | [w], _, h => by
    rw [Lib.join_one]
    exact splitL_no (ix_none (h w (by simp)))
  | w :: v :: ws, _, h => by
    have ih := split_join (v :: ws) (by simp) (fun x hx => h x (by simp [hx]))
    rw [join_two, splitL_yes (ix_here (h w (by simp)))]
    rw [List.take_left' rfl]
    congr 1
    rw [show w ++ 32 :: Lib.join (v :: ws) [32] = (w ++ [32]) ++ Lib.join (v :: ws) [32] by simp, List.drop_left' (by simp)]
    exact ih

theorem noblank_mem {l : List UInt8} (h : blanks l = 0) : (32 : UInt8) ∉ l := by
  intro hm
  have := List.countP_eq_zero.1 h 32 hm
  simp at this

theorem field_noeq {l : List UInt8} (h : fieldB l = true) : (61 : UInt8) ∉ l := by
  intro hc
  unfold fieldB spell at h
  cases l with
  | nil => simp at hc
  | cons x r =>
    simp only [Bool.and_eq_true, List.all_eq_true] at h
    have key : lodB ((61 : UInt8).toNat : Int) = true ∨ smallB ((61 : UInt8).toNat : Int) = true := by
      rcases List.mem_cons.1 hc with e | hc
      · exact Or.inr (by rw [e]; exact h.1.2)
      · exact Or.inl (h.2 _ hc)
    rcases key with k | k
    · revert k; decide
    · revert k; decide

theorem word_back {n t : ByteArray} (h : fieldB n.data.toList = true) : wordO (wordOf n t).data.toList = some (n.data.toList, t.data.toList) := by
  rw [word_data, List.append_assoc, List.singleton_append]
  have e := ix_here (b := writeL t.data.toList) (field_noeq h)
  unfold wordO
  rw [e, if_neg (by omega), Int.toNat_natCast, List.take_left' rfl]
  rw [show n.data.toList ++ 61 :: writeL t.data.toList = (n.data.toList ++ [61]) ++ writeL t.data.toList by simp, List.drop_left' (by simp), read_write]
  rfl

/-- Each text a field by itself. -/
def singles (fs : List Fld) : List Fld := fs.flatMap fun f => f.2.map fun t => (f.1, [t])

theorem ba_back (b : ByteArray) : (⟨b.data.toList.toArray⟩ : ByteArray) = b := by obtain ⟨⟨l⟩⟩ := b; rfl

theorem words_back (fs : List Fld) (h : ∀ f ∈ fs, fieldB f.1.data.toList = true) : fieldsW ((wordsL fs).map (·.data.toList)) = some (singles fs) := by
  induction fs with
  | nil => rfl
  | cons f fs ih =>
    have hf := h f (by simp)
    have ih := ih fun g hg => h g (by simp [hg])
    have e1 : fieldsW ((wordsF f).map (·.data.toList)) = some (f.2.map fun t => (f.1, [t])) := by
      unfold wordsF
      generalize f.2 = ts
      induction ts with
      | nil => rfl
      | cons t ts iht =>
        simp only [List.map_cons, fieldsW]
        rw [word_back hf]
        simp only
        rw [iht, ba_back, ba_back]
        rfl
    unfold wordsL at ih ⊢
    rw [List.flatMap_cons, List.map_append, fieldsW_append, e1, ih]
    rfl

theorem single_filter (f : Fld) (c : ByteArray) : ((f.2.map fun t => ((f.1, [t]) : Fld)).filter fun x => decide (x.1 = c)).flatMap (·.2) = if f.1 = c then f.2 else [] := by
  obtain ⟨n, ts⟩ := f
  simp only
  by_cases e : n = c
  · rw [if_pos e, List.filter_eq_self.2 (fun x hx => by obtain ⟨t, _, rfl⟩ := List.mem_map.1 hx; simp [e])]
    induction ts with
    | nil => rfl
    | cons t ts ih => rw [List.map_cons, List.flatMap_cons, ih]; rfl
  · rw [if_neg e, List.filter_eq_nil_iff.2 (fun x hx => by obtain ⟨t, _, rfl⟩ := List.mem_map.1 hx; simp [e])]
    rfl

theorem txt_singles (fs : List Fld) (c : ByteArray) : txtOf (singles fs) c = txtOf fs c := by
  induction fs with
  | nil => rfl
  | cons f fs ih =>
    unfold txtOf singles at *
    rw [List.flatMap_cons, List.filter_append, List.flatMap_append, single_filter, ih]
    by_cases e : f.1 = c
    · rw [if_pos e, List.filter_cons_of_pos (by simp [e]), List.flatMap_cons]
    · rw [if_neg e, List.filter_cons_of_neg (by simp [e]), List.nil_append]

theorem may_rising {fs : List Fld} (h : mayB fs = true) : Rising fs := by
  have hs := (may_parts h).2
  have step : ∀ i, (hi : i + 1 < fs.length) → ltB (fs[i]).1 (fs[i + 1]).1 = true := fun i hi => by
    have := hs (i + 1) hi
    unfold stepOk at this
    rw [Bool.and_eq_true, Bool.or_eq_true] at this
    rcases this.2 with h | h
    · have := of_decide_eq_true h; omega
    · rw [ltN_eq, Nat.add_sub_cancel, List.getD_eq_getElem?_getD, List.getD_eq_getElem?_getD, List.getElem?_eq_getElem hi, List.getElem?_eq_getElem (show i < fs.length by omega)] at h
      exact h
  refine List.pairwise_iff_getElem.2 fun i j hi hj hij => ?_
  induction j with
  | zero => omega
  | succ j ih =>
    by_cases e : i = j
    · subst e; exact step i hj
    · exact ltB_trans (ih (by omega) (by omega)) (step j hj)

theorem rising_txt {fs : List Fld} (h : Rising fs) : ∀ f ∈ fs, f.2 = txtOf fs f.1 := by
  intro f hf
  obtain ⟨a, b, rfl⟩ := List.append_of_mem hf
  have hr := List.pairwise_append.1 h
  have hr2 := List.pairwise_cons.1 hr.2.1
  have ha : a.filter (fun x => decide (x.1 = f.1)) = [] := List.filter_eq_nil_iff.2 fun x hx e => ltB_ne (hr.2.2 x hx f (by simp)) (by simpa using e)
  have hb : b.filter (fun x => decide (x.1 = f.1)) = [] := List.filter_eq_nil_iff.2 fun x hx e => ltB_ne (hr2.1 x hx) (Eq.symm (of_decide_eq_true e))
  unfold txtOf
  rw [List.filter_append, ha, List.filter_cons_of_pos (by simp), hb]
  simp

theorem groups_self {fs : List Fld} (h : Rising fs) : Groups fs fs := ⟨h, fun _ => Iff.rfl, rising_txt h⟩

theorem groups_singles {fs : List Fld} (h : Rising fs) (hne : ∀ f ∈ fs, f.2 ≠ []) : Groups (singles fs) fs := by
  refine ⟨h, fun c => ⟨?_, ?_⟩, fun f hf => ?_⟩
  · rintro ⟨f, hf, rfl⟩
    cases ht : f.2 with
    | nil => exact absurd ht (hne f hf)
    | cons t ts => exact ⟨(f.1, [t]), List.mem_flatMap.2 ⟨f, hf, List.mem_map.2 ⟨t, by rw [ht]; simp, rfl⟩⟩, rfl⟩
  · rintro ⟨x, hx, rfl⟩
    obtain ⟨f, hf, hx⟩ := List.mem_flatMap.1 hx
    obtain ⟨t, _, rfl⟩ := List.mem_map.1 hx
    exact ⟨f, hf, rfl⟩
  · rw [txt_singles]; exact rising_txt h f hf

theorem fits_ne {f : Fld} (h : fitsB f = true) : f.2 ≠ [] := fun e => by
  have := (fits_parts h).2.1
  rw [e] at this; simp at this

theorem may_nobare {fs : List Fld} (h : mayB fs = true) : fs.any bareB = false := by
  rw [List.any_eq_false]
  intro f hf hb
  exact fits_ne (may_fits h f hf) (List.isEmpty_iff.1 hb)

/-- Words, or none of the empty text. -/
def fieldsP (l : List UInt8) : Option (List Fld) := if l = [] then some [] else fieldsW (splitL l)
def codeP (l : List UInt8) : Int := match fieldsP l with
  | none => 4
  | some fs => codeF fs
def ansP (l : List UInt8) : List Fld := match fieldsP l with
  | none => []
  | some fs => ansF fs

theorem norm_singles {fs : List Fld} (h : mayB fs = true) : codeF (singles fs) = 0 ∧ ansF (singles fs) = fs := by
  have hn : normF (singles fs) = fs := groups_unique (normF_groups _) (groups_singles (may_rising h) fun f hf => fits_ne (may_fits h f hf))
  have hm : (singles fs).any misB = false := by
    rw [List.any_eq_false]
    intro x hx
    obtain ⟨f, hf, hx⟩ := List.mem_flatMap.1 hx
    obtain ⟨t, _, rfl⟩ := List.mem_map.1 hx
    have := (fits_parts (may_fits h f hf)).2.2.2.2
    simp [misB, this]
  have hc : codeF (singles fs) = 0 := by unfold codeF; rw [hm, hn, may_nobare h, h]; rfl
  exact ⟨hc, by unfold ansF; rw [hc, hn]; rfl⟩

theorem line_back {fs : List Fld} (h : mayB fs = true) : codeP (lineOf fs).data.toList = 0 ∧ ansP (lineOf fs).data.toList = fs := by
  have e0 : (lineOf fs).data.toList = Lib.join ((wordsL fs).map (·.data.toList)) [32] := by
    show (Lib.join ((wordsL fs).map (·.data.toList)) [32]).toArray.toList = _
    rw [List.toList_toArray]
  have hp : fieldsP (lineOf fs).data.toList = some (singles fs) := by
    unfold fieldsP
    by_cases hl : (lineOf fs).data.toList = []
    · rw [if_pos hl]
      have h0 : (lineOf fs).size = 0 := by
        have := congrArg List.length hl
        simpa using this
      have h1 := (line_empty fs).1 h0
      have h2 : fs = [] := by
        cases fs with
        | nil => rfl
        | cons f fs =>
          have := (fits_parts (may_fits h f (by simp))).2.1
          simp only [totF, List.map_cons, List.sum_cons] at h1
          omega
      subst h2
      rfl
    · rw [if_neg hl, e0, split_join]
      · exact words_back fs fun f hf => (fits_parts (may_fits h f hf)).2.2.2.2
      · intro e
        rw [e0, e] at hl
        exact hl rfl
      · intro w hw
        obtain ⟨x, hx, rfl⟩ := List.mem_map.1 hw
        obtain ⟨f, hf, hx⟩ := List.mem_flatMap.1 hx
        obtain ⟨t, _, rfl⟩ := List.mem_map.1 hx
        exact noblank_mem (word_noblank (fits_parts (may_fits h f hf)).2.2.2.2)
  unfold codeP ansP
  rw [hp]
  exact norm_singles h

theorem codeF_nil : codeF [] = 0 := by decide
theorem ansF_nil : ansF [] = [] := by decide

def PPost (w : World) (l : List UInt8) (e : Ending) (w' : World) : Prop :=
  (∃ u o, e = .returned (.tuple #[u, .int .i64 (codeP l)]) ∧ OwnXs w.heap.size w' u o ∧ o.map Fx.fld = ansP l) ∧ Below w.heap.size w w'

theorem ansP_fit {d : List Fx} {l : List UInt8} (hm : d.map Fx.fld = ansP l) : FitX d := by
  unfold ansP at hm
  cases h : fieldsP l with
  | none =>
    rw [h] at hm
    rw [List.map_eq_nil_iff] at hm
    subst hm
    exact ⟨by unfold maxLen; simp, fun x hx => by simp at hx⟩
  | some fs => rw [h] at hm; exact ans_fit hm

theorem parse_plain (s : ByteArray) (w : World) (hp : PlainAt w) (hs : s.size ≤ 3000000000000) :
    Calls Tryd.prog 22 #[.string s] w fun e w' => PPost w s.data.toList e w' := by
  refine (parse_any s w hp hs).mono fun e w' h => ⟨?_, h.2⟩
  rcases h.1 with ⟨h0, rfl⟩ | ⟨h0, h1, rfl⟩ | ⟨h0, fs, d, h1, h2, h3⟩
  · have hf : fieldsP s.data.toList = some [] := by unfold fieldsP; rw [if_pos h0]
    exact ⟨_, [], by unfold codeP; rw [hf]; simp only [codeF_nil], own_none _ _, by unfold ansP; rw [hf]; simp only [ansF_nil]; rfl⟩
  · have hf : fieldsP s.data.toList = none := by unfold fieldsP; rw [if_neg h0]; exact h1
    exact ⟨_, [], by unfold codeP; rw [hf], own_none _ _, by unfold ansP; rw [hf]; rfl⟩
  · have hf : fieldsP s.data.toList = some fs := by unfold fieldsP; rw [if_neg h0]; exact h1
    unfold codeP ansP
    rw [hf]
    subst h2
    refine ansPlain ?_
    rcases h3.plain with h | ⟨h1, h | h | ⟨h2, h3, u, o, h4, h5, h6⟩⟩
    · exact Or.inl h
    · exact Or.inr ⟨h1, Or.inl h⟩
    · exact Or.inr ⟨h1, Or.inr (Or.inl h)⟩
    · exact Or.inr ⟨h1, Or.inr (Or.inr ⟨h2, h3, u, o, h4, h5.1, h6⟩)⟩

end Go.Proofs.YtmjchokacmbkoaaDoor

/-
  The contract of the reference's Print.
-/
namespace Go.Proofs.YtmjchokacmbkoaaDoor
open Go.RowKit Go.Lib

def lineB (ws : List ByteArray) : ByteArray := ⟨(Lib.join (ws.map (·.data.toList)) [32]).toArray⟩

theorem lineB_data (ws : List ByteArray) : (lineB ws).data.toList = Lib.join (ws.map (·.data.toList)) [32] := by
  unfold lineB
  rw [List.toList_toArray]

theorem join_snoc : ∀ (ws : List (List UInt8)) (x : List UInt8), ws ≠ [] → Lib.join (ws ++ [x]) [32] = Lib.join ws [32] ++ 32 :: x
  | [], _, h => absurd rfl h
  | [w], x, _ => by rw [List.singleton_append, join_two, Lib.join_one, Lib.join_one]
  | w :: v :: ws, x, _ => by
    have ih := join_snoc (v :: ws) x (by simp)
    rw [List.cons_append, List.cons_append, join_two, ← List.cons_append, ih, join_two]
    simp

theorem data_append (a b : ByteArray) : (a ++ b).data.toList = a.data.toList ++ b.data.toList := by
  simp

theorem lineB_first (n t : ByteArray) : lineB [wordOf n t] = ⟨#[]⟩ ++ n ++ ⟨#[61]⟩ ++ ⟨(writeL t.data.toList).toArray⟩ := by
  refine ba_eq ?_
  rw [lineB_data, List.map_cons, List.map_nil, Lib.join_one]
  unfold wordOf
  simp only [data_append]
  simp

theorem lineB_next {ws : List ByteArray} (h : ws ≠ []) (n t : ByteArray) : lineB (ws ++ [wordOf n t]) = lineB ws ++ ⟨#[32]⟩ ++ n ++ ⟨#[61]⟩ ++ ⟨(writeL t.data.toList).toArray⟩ := by
  refine ba_eq ?_
  rw [lineB_data, List.map_append, List.map_cons, List.map_nil, join_snoc _ _ (by simpa using h)]
  simp only [data_append, lineB_data]
  unfold wordOf
  simp only [data_append]
  simp

theorem lineB_size {ws : List ByteArray} (hn : ws.length ≤ 200) (hs : ∀ x ∈ ws, x.size ≤ 417) : (lineB ws).size ≤ 83600 := by
  have e : (lineB ws).size = (Lib.join (ws.map (·.data.toList)) [32]).length := by rw [← lineB_data]; simp
  have h1 := join_size 417 (ws.map (·.data.toList)) (fun w hw => by
    obtain ⟨x, hx, rfl⟩ := List.mem_map.1 hw
    simpa using hs x hx)
  rw [List.length_map] at h1
  have h3 : ws.length * (417 + 1) ≤ 200 * (417 + 1) := Nat.mul_le_mul_right _ hn
  omega

theorem lineB_ne {ws : List ByteArray} (h : ws ≠ []) (hs : ∀ x ∈ ws, 0 < x.size) : (lineB ws).toList.isEmpty = false := by
  rw [Lib.toList_data, lineB_data]
  match ws, h with
  | [x], _ =>
    have := hs x (by simp)
    rw [List.map_cons, List.map_nil, Lib.join_one]
    cases hx : x.data.toList with
    | nil =>
      have h3 : x.data.toList.length = x.size := by simp
      rw [hx] at h3
      simp at h3
      omega
    | cons _ _ => rfl
  | x :: y :: ws, _ =>
    rw [List.map_cons, List.map_cons, join_two]
    cases x.data.toList with
    | nil => rfl
    | cons _ _ => rfl

theorem word_pos (n t : ByteArray) : 0 < (wordOf n t).size := by
  have : 0 < (wordOf n t).data.toList.length := by rw [word_data]; simp; omega
  simpa using this

set_option maxHeartbeats 4000000 in
set_option maxRecDepth 100000 in
theorem rprint_no (v : Value) (d : List Fx) (w : World) (hv : IsXs w v d) (hf : FitX d) (hm : mayB (d.map Fx.fld) = false) :
    Calls Tryd.prog 21 #[v] w fun e w' => e = .returned (.tuple #[.string ⟨#[]⟩, .int .i64 3]) ∧ Grown w w' := by
  have HM := hid (rmay_any v d w hv hf)
  rw [hm] at HM
  clear hv
  go_enter Tryd.func21, Tryd.ntmps21
  go_wp2_with (first | (go_at_call 14; refine HM.out.mono ?_; rintro e w1 ⟨rfl, hg⟩))
  go_ret2
  exact ⟨rfl, hg⟩

set_option maxHeartbeats 4000000 in
set_option maxRecDepth 100000 in
theorem rprint_yes (v : Value) (d : List Fx) (w : World) (hv : IsXs w v d) (hf : FitX d) (hm : mayB (d.map Fx.fld) = true) :
    Calls Tryd.prog 21 #[v] w fun e w' => e = .returned (.tuple #[.string (lineOf (d.map Fx.fld)), .int .i64 0]) ∧ Below w.heap.size w w' := by
  have HM := hid (rmay_any v d w hv hf)
  rw [hm] at HM
  obtain ⟨p, cap, rfl, hd, ht⟩ := hv
  have HT := hid ht
  have hl := hf.1
  unfold maxLen at hl
  have HD := hid hd
  have HMM := hid hm
  clear ht hf hd hm
  go_enter Tryd.func21, Tryd.ntmps21
  go_wp2_with (first | (go_at_call 14; refine HM.out.mono ?_; rintro e w1 ⟨rfl, hg⟩))
  go_loopg [4, 5] d.length (fun g vs vi wr => ∃ i : Nat, vi = .int .i64 i ∧ i ≤ d.length ∧ d.length - i ≤ g ∧ Below w.heap.size w wr ∧ vs = .string (lineB (wordsL ((d.map Fx.fld).take i))))
  case atStart => exact ⟨0, rfl, by omega, by omega, hg.below, rfl⟩
  case round =>
    obtain ⟨i, rfl, hi, hgk, hb, rfl⟩ := hrel
    by_cases hlt : i < d.length
    · have hltz : (i : Int) < (d.length : Int) := by omega
      have hiz : (0 : Int) ≤ i := by omega
      obtain ⟨b, off, rfl, hxs⟩ : ∃ b off, p = some ⟨b, off, none⟩ ∧ XsAt w b off d := by
        rcases HD.out with h | h
        · subst h; simp at hlt
        · exact h
      have hkc : ∀ W, Below w.heap.size w W → W.cell? ⟨b, off + i * 2, none⟩ = some (.string (d[i]).name) ∧ W.cell? ⟨b, off + i * 2 + 1, none⟩ = some (.slice (d[i]).p (d[i]).txt.length (d[i]).cap) := fun W hW => hxs.kept hW i hlt
      have hxi : (d[i]).at w := HT.out _ (List.getElem_mem hlt)
      have hfi : fitsB (d[i]).fld = true := may_fits HMM.out _ (List.mem_map.2 ⟨_, List.getElem_mem hlt, rfl⟩)
      have htk : wordsL ((d.map Fx.fld).take (i + 1)) = wordsL ((d.map Fx.fld).take i) ++ wordsF (d[i]).fld := by
        unfold wordsL
        rw [List.take_succ_eq_append_getElem (by rw [List.length_map]; exact hlt), List.flatMap_append]
        simp
      obtain ⟨x, hx⟩ : ∃ x, d[i] = x := ⟨_, rfl⟩
      rw [hx] at hkc hxi hfi htk
      obtain ⟨b2, off2, hp2, ht2⟩ : ∃ b off, x.p = some ⟨b, off, none⟩ ∧ ∀ i, (h : i < x.txt.length) → w.cell? ⟨b, off + i, none⟩ = some (.string x.txt[i]) := by
        rcases hxi with h | h
        · have := (fits_parts hfi).2.1
          simp only [Fx.fld] at this
          rw [h] at this; simp at this
        · exact h
      have hal : (wordsL ((d.map Fx.fld).take i)).length ≤ 128 := wordsL_len (fun f hf => may_fits HMM.out f (List.mem_of_mem_take hf)) (by rw [List.length_take]; have := (may_parts HMM.out).1; omega)
      have has : ∀ y ∈ wordsL ((d.map Fx.fld).take i), y.size ≤ 417 ∧ 0 < y.size := fun y hy => by
        obtain ⟨f, hf, hy⟩ := List.mem_flatMap.1 hy
        obtain ⟨t, ht, rfl⟩ := List.mem_map.1 hy
        exact ⟨word_len (may_fits HMM.out f (List.mem_of_mem_take hf)) ht, word_pos _ _⟩
      obtain ⟨acc, hacc⟩ : ∃ acc, wordsL ((d.map Fx.fld).take i) = acc := ⟨_, rfl⟩
      rw [hacc] at htk hal has ⊢
      obtain ⟨hn32, _, hn8, hn128, _⟩ := fits_parts hfi
      have HAS : Hid (∀ j, ∀ y ∈ acc ++ (x.txt.take j).map (wordOf x.name), y.size ≤ 417 ∧ 0 < y.size) := fun j y hy => by
        rw [List.mem_append] at hy
        rcases hy with hy | hy
        · exact has y hy
        · obtain ⟨t, ht, rfl⟩ := List.mem_map.1 hy
          exact ⟨word_len hfi (List.mem_of_mem_take ht), word_pos _ _⟩
      rw [hp2] at hkc
      have HKC := hid hkc
      have HT2 := hid ht2
      have HTK := hid htk
      have H128 := hid hn128
      have HB := hid hb
      clear hxs hxi hx htk hacc hfi ht2 hkc hp2 has hb hn128
      simp only [Fx.fld] at hn32 hn8
      go_wp2_with fail
      go_loopg [4, 6] x.txt.length (fun g vs vj wr2 => ∃ j : Nat, vj = .int .i64 j ∧ j ≤ x.txt.length ∧ x.txt.length - j ≤ g ∧ Hid (Below w.heap.size w wr2) ∧ vs = .string (lineB (acc ++ (x.txt.take j).map (wordOf x.name))))
      case atStart => exact ⟨0, rfl, by omega, by omega, HB, by simp⟩
      case round =>
        obtain ⟨j, rfl, hj, hgj, HBJ, rfl⟩ := hrel
        obtain ⟨c0, c1⟩ := HKC.out _ HBJ.out
        by_cases hlj : j < x.txt.length
        · have hljz : (j : Int) < (x.txt.length : Int) := by omega
          have hjz : (0 : Int) ≤ j := by omega
          have hkt : ∀ W, Below w.heap.size w W → W.cell? ⟨b2, off2 + j, none⟩ = some (.string x.txt[j]) := fun W hW => (hW.cell (p := ⟨b2, off2 + j, none⟩) (cell_block (HT2.out j hlj))).trans (HT2.out j hlj)
          have hts : x.txt[j].size ≤ 128 := H128.out _ (List.getElem_mem hlj)
          have hstep : (x.txt.take (j + 1)).map (wordOf x.name) = (x.txt.take j).map (wordOf x.name) ++ [wordOf x.name x.txt[j]] := by
            rw [List.take_succ_eq_append_getElem hlj, List.map_append]; simp
          obtain ⟨t, hte⟩ : ∃ t, x.txt[j] = t := ⟨_, rfl⟩
          rw [hte] at hkt hts hstep
          have hal2 : (acc ++ (x.txt.take j).map (wordOf x.name)).length ≤ 200 := by simp; omega
          have has2 := HAS.out j
          have hls := lineB_size hal2 fun y hy => (has2 y hy).1
          have hnx : acc ++ (x.txt.take (j + 1)).map (wordOf x.name) = (acc ++ (x.txt.take j).map (wordOf x.name)) ++ [wordOf x.name t] := by rw [hstep, List.append_assoc]
          obtain ⟨ac2, hac2⟩ : ∃ ac2, acc ++ (x.txt.take j).map (wordOf x.name) = ac2 := ⟨_, rfl⟩
          rw [hac2] at has2 hls hnx ⊢
          -- the text behind the blank, if there is one
          obtain ⟨S1, hS1, hS1s, hkey⟩ : ∃ S1 : ByteArray, S1 = (if ac2 = [] then ⟨#[]⟩ else lineB ac2 ++ ⟨#[32]⟩) ∧ S1.size ≤ 83601 ∧ lineB (ac2 ++ [wordOf x.name t]) = S1 ++ x.name ++ ⟨#[61]⟩ ++ ⟨(writeL t.data.toList).toArray⟩ := by
            refine ⟨_, rfl, ?_, ?_⟩
            · split
              · exact Nat.zero_le _
              · rw [ByteArray.size_append]; show _ + 1 ≤ _; omega
            · split
              · rename_i h; subst h; exact lineB_first _ _
              · rename_i h; exact lineB_next h _ _
          have HKT := hid hkt
          have HNX : Hid (lineB (acc ++ (x.txt.take (j + 1)).map (wordOf x.name)) = S1 ++ x.name ++ ⟨#[61]⟩ ++ ⟨(writeL t.data.toList).toArray⟩) := by show _ = _; rw [hnx, hkey]
          have HA2 := hid has2
          have HS1 := hid hS1
          clear hte hstep hac2 hkt hnx has2 hkey hS1 hal2
          obtain ⟨S, hS⟩ : ∃ S, lineB ac2 = S := ⟨_, rfl⟩
          have HSE := hid hS
          rw [hS] at hls ⊢
          obtain ⟨B, hB⟩ : ∃ B, S.toList.isEmpty = B := ⟨_, rfl⟩
          have HSB := hid hB
          clear hS
          go_upto_if 27 with fail
          clear hB
          go_cut [4] from 16 to 47 (fun vs wx => wr = wx ∧ vs = .string S1)
          case first =>
            cases B with
            | true =>
              have E1 : Hid (S = S1) := by
                show _ = _
                by_cases h0 : ac2 = []
                · rw [HS1.out, if_pos h0, ← HSE.out, h0]; rfl
                · have := lineB_ne h0 fun y hy => (HA2.out y hy).2
                  rw [HSE.out, HSB.out] at this
                  cases this
              go_wp2_with fail
              go_meet
              case rel => exact ⟨rfl, by rw [E1.out]⟩
            | false =>
              have e1 : S1 = S ++ ⟨#[32]⟩ := by
                by_cases h0 : ac2 = []
                · have := HSB.out
                  rw [← HSE.out, h0, show (lineB []).toList.isEmpty = true by rw [Lib.toList_data]; rfl] at this
                  cases this
                · rw [HS1.out, if_neg h0, HSE.out]
              have hA : ∀ w, Sem.run Tryd.prog (Op.stringOp .add S ⟨#[32]⟩) w = .ok (.string S1) w := fun w => by rw [e1]; exact run_string_add_sum _ _ _ (by show S.size + 1 ≤ _; omega)
              clear e1
              go_wp2_with fail
              go_meet
              case rel => exact ⟨rfl, rfl⟩
          case rest =>
            obtain ⟨rfl, rfl⟩ := hcut
            have hwl2 := writeL_len t.data.toList
            have hwl3 : t.data.toList.length = t.size := by simp
            have HW := hid (fun W => rwrite_any t W (by omega))
            obtain ⟨wt, hwt⟩ : ∃ wt : ByteArray, ⟨(writeL t.data.toList).toArray⟩ = wt := ⟨_, rfl⟩
            have hwts : wt.size ≤ 384 := by rw [← hwt]; show (writeL t.data.toList).toArray.size ≤ 384; rw [List.size_toArray]; omega
            rw [hwt] at HW HNX
            obtain ⟨S2, hS2⟩ : ∃ S2 : ByteArray, S1 ++ x.name = S2 := ⟨_, rfl⟩
            have hS2s : S2.size ≤ 83633 := by rw [← hS2, ByteArray.size_append]; omega
            obtain ⟨S3, hS3⟩ : ∃ S3 : ByteArray, S2 ++ ⟨#[61]⟩ = S3 := ⟨_, rfl⟩
            have hS3s : S3.size ≤ 83634 := by rw [← hS3, ByteArray.size_append]; show _ + 1 ≤ _; omega
            obtain ⟨S4, hS4⟩ : ∃ S4 : ByteArray, S3 ++ wt = S4 := ⟨_, rfl⟩
            rw [hS2, hS3, hS4] at HNX
            have hA : ∀ w, Sem.run Tryd.prog (Op.stringOp .add S1 x.name) w = .ok (.string S2) w := fun w => by rw [← hS2]; exact run_string_add_sum _ _ _ (by omega)
            have hB : ∀ w, Sem.run Tryd.prog (Op.stringOp .add S2 ⟨#[61]⟩) w = .ok (.string S3) w := fun w => by rw [← hS3]; exact run_string_add_sum _ _ _ (by show S2.size + 1 ≤ _; omega)
            have hC : ∀ w, Sem.run Tryd.prog (Op.stringOp .add S3 wt) w = .ok (.string S4) w := fun w => by rw [← hS4]; exact run_string_add_sum _ _ _ (by omega)
            have ct := HKT.out _ HBJ.out
            have KS : Hid (∀ W, Below w.heap.size w W → W.cell? ⟨b, off + i * 2, none⟩ = some (.string x.name) ∧ W.cell? ⟨b, off + i * 2 + 1, none⟩ = some (.slice (some ⟨b2, off2, none⟩) x.txt.length x.cap) ∧ W.cell? ⟨b2, off2 + j, none⟩ = some (.string t)) := fun W hW => ⟨(HKC.out W hW).1, (HKC.out W hW).2, HKT.out W hW⟩
            clear hwl2 hwl3 hwt hS2 hS3 hS4 hwts hS2s hS3s hS1s hls
            go_wp2_with fail
            go_region_held3 (fun W => Below w.heap.size w W ∧ W.cell? ⟨b, off + i * 2, none⟩ = some (.string x.name) ∧ W.cell? ⟨b, off + i * 2 + 1, none⟩ = some (.slice (some ⟨b2, off2, none⟩) x.txt.length x.cap) ∧ W.cell? ⟨b2, off2 + j, none⟩ = some (.string t))
              (first | exact ⟨HBJ.out.drew, KS.out _ HBJ.out.drew⟩ | exact ⟨bw2, KS.out _ bw2⟩)
              (first | (go_at_call 28; refine (HW.out _).mono ?_; rintro o w2 ⟨rfl, hb2⟩; have bw2 : Below w.heap.size w w2 := bel_then HBJ.out.drew HBJ.out.drew.size hb2))
            go_wp2_with fail
            go_roundg (x.txt.length - (j + 1))
            case measure => omega
            exact ⟨j + 1, by go_num, by omega, by omega, bw2, by rw [HNX.out]⟩
        · have hljz : ¬ (j : Int) < (x.txt.length : Int) := by omega
          have htk2 : x.txt.take j = x.txt := List.take_of_length_le (by omega)
          rw [htk2]
          have HTK2 : Hid (wordsL ((d.map Fx.fld).take (i + 1)) = acc ++ x.txt.map (wordOf x.name)) := HTK.out
          clear htk2
          go_wp2_with fail
          go_roundg (d.length - (i + 1))
          case measure => omega
          exact ⟨i + 1, by go_num, by omega, by omega, HBJ.out, by rw [HTK2.out]⟩
    · have hltz : ¬ (i : Int) < (d.length : Int) := by omega
      have htk2 : (d.map Fx.fld).take i = d.map Fx.fld := List.take_of_length_le (by rw [List.length_map]; omega)
      rw [htk2]
      clear htk2
      have HLN : Hid (lineOf (d.map Fx.fld) = lineB (wordsL (d.map Fx.fld))) := rfl
      go_wp2_with fail
      go_ret2
      rw [HLN.out]
      exact ⟨rfl, hb⟩

end Go.Proofs.YtmjchokacmbkoaaDoor

/-
  ValueLines answers true.
-/
namespace Go.Proofs.YtmjchokacmbkoaaDoor
open Go.RowKit Go.Lib

set_option maxHeartbeats 2000000 in
set_option maxRecDepth 100000 in
theorem lines_any (v : Value) (d : List Fx) (w : World) (hp : PlainAt w) (hv : IsXs w v d) (hf : FitX d) :
    Calls Tryd.prog 6 #[v] w fun e w' => e = .returned (.bool true) ∧ Below w.heap.size w w' := by
  have HP := hid hp
  have HV := hid hv
  have HF := hid hf
  clear hp hv hf
  cases hm : mayB (d.map Fx.fld) with
  | false =>
    have HM := hid hm
    clear hm
    go_enter Tryd.func6, Tryd.ntmps6
    go_wp2_with (first
      | (go_at_call 9; refine (fixed_any _ HP.out).mono ?_; rintro e w1 ⟨rfl, q1⟩)
      | (go_at_call 20; refine (print_no v d w1 (HV.out.kept q1) HF.out HM.out).mono ?_; rintro e w2 ⟨rfl, q2⟩; have b2 : Below w.heap.size w w2 := bel_then q1 q1.size q2.below)
      | (go_at_call 21; refine (rprint_no v d w2 (HV.out.kept b2) HF.out HM.out).mono ?_; rintro e w3 ⟨rfl, q3⟩; have b3 : Below w.heap.size w w3 := bel_then b2 b2.size q3.below))
    go_ret
    exact ⟨rfl, b3⟩
  | true =>
    obtain ⟨hc, ha⟩ := line_back hm
    have HLS := hid (line_size hm)
    have HM := hid hm
    have HC := hid hc
    have HA := hid ha
    clear hm hc ha
    obtain ⟨l, hl⟩ : ∃ l, lineOf (d.map Fx.fld) = l := ⟨_, rfl⟩
    rw [hl] at HC HA HLS
    have HL := hid hl
    clear hl
    go_enter Tryd.func6, Tryd.ntmps6
    go_wp2_with (first
      | (go_at_call 9; refine (fixed_any _ HP.out).mono ?_; rintro e w1 ⟨rfl, q1⟩)
      | (go_at_call 20; refine (print_yes v d w1 (HP.out.on q1) (HV.out.kept q1) HF.out HM.out).mono ?_; rintro e w2 ⟨rfl, q2⟩; have b2 : Below w.heap.size w w2 := bel_then q1 q1.size q2; rw [HL.out])
      | (go_at_call 21; refine (rprint_yes v d w2 (HV.out.kept b2) HF.out HM.out).mono ?_; rintro e w3 ⟨rfl, q3⟩; have b3 : Below w.heap.size w w3 := bel_then b2 b2.size q3; rw [HL.out])
      | (go_at_call 22; refine (parse_plain l w3 (HP.out.on b3) (Nat.le_trans HLS.out (by omega))).mono ?_; rintro e w4 ⟨⟨u4, d4, rfl, o4, m4⟩, q4⟩; rw [HC.out]; rw [HA.out] at m4; have b4 : Below w.heap.size w w4 := bel_then b3 b3.size q4; have O4 := hid o4.is; have M4 := hid m4; clear o4 m4; have HEQ := hid (equal_any u4 v d4 d w4 O4.out (HV.out.kept b4) (may_fit HM.out M4.out) HF.out); rw [show decide (d4.map Fx.fld = d.map Fx.fld) = true from decide_eq_true M4.out] at HEQ)
      | (go_at_call 23; refine HEQ.out.mono ?_; rintro e w5 ⟨rfl, q5⟩; have b5 : Below w.heap.size w w5 := bel_then b4 b4.size q5.below; have HSF := hid (sameF_any u4 v d4 d w5 (O4.out.kept q5.below) (HV.out.kept b5) (may_fit HM.out M4.out) HF.out); rw [show decide (d4.map Fx.fld = d.map Fx.fld) = true from decide_eq_true M4.out] at HSF)
      | (go_at_call 24; refine HSF.out.mono ?_; rintro e w6 ⟨rfl, n, rfl⟩))
    go_ret
    exact ⟨rfl, bel_drewN b5 n⟩

end Go.Proofs.YtmjchokacmbkoaaDoor
