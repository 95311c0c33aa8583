/-
  Texts of this claim, one behind the other: Cob Coz Dfd Fdi Ozw Mob Yl5 Yl6 Yob.
-/
import Derived.Test.YtmihddbnddgfhaaPf
import Derived.Test.YtmihddbnddgfhaaRows
import Derived.Test.YtmihddbnddgfhaaPa
import Derived.MakeChecks
import Derived.ProofKit
import Derived.OpenShut
import Derived.Lay
import Derived.Stop.Joined
import Derived.SliceStrings
import Derived.Deep.SlicePairs
import Derived.Lib.LaidU8
import Derived.SizedLaws
import Derived.ChangeSlices
import Derived.JoinedCond
import Derived.Lib.SmallJoins
import Derived.ShutString
import Derived.Below
import Derived.Deep.DeepHandedRow
import Derived.Test.YtmihddbnddgfhaaPc
import Derived.Test.YtmihddbnddgfhaaPb
/-
  What each row's proof opens its arguments by: fields, and their bulk.
-/
namespace Go.Proofs.Ytmihddbnddgfhaa
open Go.ChangeShapes Go.WideShapes Go.ChangeAt Go.RowKit Go.Lib Go.Deep Go.Joins


theorem Try.own : ownKnob Try.prog.godebug = none := by kernel_rfl

theorem Try.laidOut : laidOutB Try.prog = true := by kernel_rfl

theorem Try.cellsFld : Try.prog.cellsOf 90 = 2 := by kernel_rfl

theorem Try.cellsStr : Try.prog.cellsOf 9 = 1 := by kernel_rfl

theorem Try.cellsStrs : Try.prog.cellsOf 88 = 1 := by kernel_rfl

/-- A slice of texts that came in. -/
theorem open_txt {H : Type} {enc : TypeId × Value → H} {W : World} {f : Nat} {v : Value} {x : DataW H × List MemPlace} (h : DataW.trod enc Try.prog W 0 (fun _ => true) true f 88 [v] = some x) :
    ∃ p cap, ∃ ts : List ByteArray, v = .slice p ts.length cap ∧ TxtAt W p ts ∧ FitT ts := by
  rcases open_strings Try.underlying88 Try.underlying9 Try.cellsStr h with ⟨hcs, _⟩ | ⟨a, l, c, ss, hcs, _, hl, hm, hz, _, hcell, hws⟩
  · simp at hcs
    exact ⟨none, 0, [], hcs, Or.inl rfl, by unfold maxLen; simp, fun t ht => by simp at ht⟩
  · simp at hcs
    have hz' : ss.length = c := by simpa using hz
    have hlen : (ss.take l).length = l := by rw [List.length_take]; omega
    refine ⟨some a, c, ss.take l, by rw [hlen]; exact hcs, ?_, by omega, fun t ht => hws t (List.mem_of_mem_take ht)⟩
    by_cases h0 : l = 0
    · subst h0; exact Or.inl rfl
    · right
      have hc0 := hcell 0 (by omega)
      obtain ⟨b, off, spot⟩ := a
      have hspot : spot = none := by simpa [Addr.add] using World.cell?_spot hc0
      subst hspot
      refine ⟨b, off, rfl, fun i hi => ?_⟩
      rw [hlen] at hi
      have := hcell i (by omega)
      rw [addr_add] at this
      rw [this, List.getElem_take, List.getD_eq_getElem?_getD, List.getElem?_eq_getElem (by omega)]
      rfl

set_option maxRecDepth 100000 in
/-- A slice of fields that came in. -/
theorem open_fields {H : Type} {enc : TypeId × Value → H} {W : World} {b0 : Nat} {v : Value} {dd : DataW H} {p : List MemPlace}
    (hv : Value.okWide Try.prog W .any b0 68 v) (h : DataW.Trod enc Try.prog W 0 (fun _ => true) true 68 v dd p) : ∃ d : List Fx, IsXs W v d ∧ FitX d := by
  obtain ⟨a0, len, cap, rfl⟩ := okWide_slice Try.underlying68 hv
  obtain ⟨fuel, hf⟩ := h
  rcases open_slice_pairs Try.underlying68 Try.underlying90 Try.cellsFld rfl rfl Try.cellsStr Try.cellsStrs hf with ⟨hcs, _⟩ | ⟨a, l, c, m, n, V0, V1, D0, D1, P0, P1, hcs, _, hl, hm, hmm, hdat, hall⟩
  · simp [Value.cells] at hcs
    obtain ⟨rfl, rfl, rfl⟩ := hcs
    exact ⟨[], ⟨none, 0, rfl, Or.inl rfl, fun x hx => by simp at hx⟩, by unfold maxLen; simp, fun x hx => by simp at hx⟩
  · simp [Value.cells] at hcs
    obtain ⟨rfl, rfl, rfl⟩ := hcs
    have hm' : m = cap := by simpa using hmm
    subst hm'
    have each : ∀ i, i < m → ∃ x : Fx, V0 i = .string x.name ∧ V1 i = x.sl ∧ TxtAt W x.p x.txt ∧ FitF x.fld := by
      intro i hi
      obtain ⟨_, _, h3, h4⟩ := hall i hi
      obtain ⟨s, e0, _, hs⟩ := DataW.trod_string Try.underlying9 h3
      simp only [List.cons.injEq, and_true] at e0
      obtain ⟨q, cc, ts, e1, ht, hft⟩ := open_txt h4
      exact ⟨⟨s, q, cc, ts⟩, e0, e1, ht, hs, hft⟩
    by_cases h0 : len = 0
    · subst h0
      exact ⟨[], ⟨_, _, rfl, Or.inl rfl, fun x hx => by simp at hx⟩, by unfold maxLen; simp, fun x hx => by simp at hx⟩
    · have hc0 := (hall 0 (by omega)).1
      obtain ⟨b, off, spot⟩ := a
      have hspot : spot = none := by simpa [Addr.add] using World.cell?_spot hc0
      subst hspot
      let f : Nat → Fx := fun i => if h : i < m then (each i h).choose else default
      have fs : ∀ i (h : i < m), V0 i = .string (f i).name ∧ V1 i = (f i).sl ∧ TxtAt W (f i).p (f i).txt ∧ FitF (f i).fld := fun i h => by
        have e : f i = (each i h).choose := dif_pos h
        rw [e]
        exact (each i h).choose_spec
      have hlen : ((List.range len).map f).length = len := by simp
      refine ⟨(List.range len).map f, ⟨_, m, by rw [hlen], Or.inr ⟨b, off, rfl, fun i hi => ?_⟩, fun x hx => ?_⟩, by rw [hlen]; omega, fun x hx => ?_⟩
      · have hi0 : i < len := by simpa using hi
        obtain ⟨h1, h2, _, _⟩ := hall i (by omega)
        obtain ⟨g1, g2, _⟩ := fs i (by omega)
        rw [addr_add] at h1 h2
        have ef : ((List.range len).map f)[i]'hi = f i := by simp
        rw [ef, h1, ← g1]
        refine ⟨rfl, ?_⟩
        rw [Nat.add_assoc, h2, g2]
      · obtain ⟨i, hi, rfl⟩ := List.mem_map.1 hx
        exact (fs i (by have := List.mem_range.1 hi; omega)).2.2.1
      · obtain ⟨i, hi, rfl⟩ := List.mem_map.1 hx
        exact (fs i (by have := List.mem_range.1 hi; omega)).2.2.2

theorem bulk_pos {H : Type} (d : DataW H) : 1 ≤ Rows.uptoBulk d := by
  cases d with
  | lit l => cases l <;> simp [Rows.uptoBulk]
  | nil => simp [Rows.uptoBulk]
  | ptr d => simp [Rows.uptoBulk]
  | slice elems spare => simp [Rows.uptoBulk]
  | agg parts => simp [Rows.uptoBulk]
  | iface t d => simp [Rows.uptoBulk]
  | map entries => simp [Rows.uptoBulk]
  | held h => simp [Rows.uptoBulk]

theorem bulk_sum {H : Type} (l : List (DataW H)) : Rows.uptoBulkAll l = (l.map Rows.uptoBulk).sum := by
  induction l with
  | nil => simp [Rows.uptoBulkAll]
  | cons x r ih => simp [Rows.uptoBulkAll, ih]

theorem bulk_mem {H : Type} {d : DataW H} {l : List (DataW H)} (h : d ∈ l) : Rows.uptoBulk d ≤ Rows.uptoBulkAll l := by
  induction l with
  | nil => cases h
  | cons x r ih =>
    simp only [Rows.uptoBulkAll]
    rcases List.mem_cons.1 h with rfl | h
    · omega
    · have := ih h; omega

theorem bulk_len {H : Type} (l : List (DataW H)) : l.length ≤ Rows.uptoBulkAll l := by
  induction l with
  | nil => simp [Rows.uptoBulkAll]
  | cons x r ih => have := bulk_pos x; simp only [Rows.uptoBulkAll, List.length_cons]; omega

theorem bulk_small {H : Type} {l : List (DataW H)} (hk : Rows.uptoSmall H l = true) : Rows.uptoBulkAll l ≤ 1048576 := of_decide_eq_true hk

/-- A slice of texts that came in, and its bulk. -/
theorem open_txtU {H : Type} {enc : TypeId × Value → H} {W : World} {f : Nat} {v : Value} {x : DataW H × List MemPlace} (h : DataW.trod enc Try.prog W 0 (fun _ => true) true f 88 [v] = some x) :
    ∃ p cap, ∃ ts : List ByteArray, v = .slice p ts.length cap ∧ TxtAt W p ts ∧ FitT ts ∧ ts.length + 1 ≤ Rows.uptoBulk x.1 ∧ ∀ t ∈ ts, t.size ≤ Rows.uptoBulk x.1 := by
  rcases open_strings Try.underlying88 Try.underlying9 Try.cellsStr h with ⟨hcs, hx⟩ | ⟨a, l, c, ss, hcs, _, hl, hm, hz, hx, hcell, hws⟩
  · simp at hcs
    exact ⟨none, 0, [], hcs, Or.inl rfl, ⟨by unfold maxLen; simp, fun t ht => by simp at ht⟩, by rw [hx]; simp [Rows.uptoBulk], fun t ht => by simp at ht⟩
  · simp at hcs
    have hz' : ss.length = c := by simpa using hz
    have hlen : (ss.take l).length = l := by rw [List.length_take]; omega
    have hb1 := bulk_len (strs (ss.take l) : List (DataW H))
    have hb2 : (strs (ss.take l) : List (DataW H)).length = l := by rw [show (strs (ss.take l) : List (DataW H)).length = (ss.take l).length by simp [strs], hlen]
    refine ⟨some a, c, ss.take l, by rw [hlen]; exact hcs, ?_, ⟨by omega, fun t ht => hws t (List.mem_of_mem_take ht)⟩, ?_, fun t ht => ?_⟩
    · by_cases h0 : l = 0
      · subst h0; exact Or.inl rfl
      · right
        have hc0 := hcell 0 (by omega)
        obtain ⟨b, off, spot⟩ := a
        have hspot : spot = none := by simpa [Addr.add] using World.cell?_spot hc0
        subst hspot
        refine ⟨b, off, rfl, fun i hi => ?_⟩
        rw [hlen] at hi
        have := hcell i (by omega)
        rw [addr_add] at this
        rw [this, List.getElem_take, List.getD_eq_getElem?_getD, List.getElem?_eq_getElem (by omega)]
        rfl
    · rw [hx, hlen]
      simp only [Rows.uptoBulk]
      omega
    · rw [hx]
      simp only [Rows.uptoBulk]
      have hm' : (DataW.lit (.string t.data.toList) : DataW H) ∈ strs (ss.take l) := by
        unfold strs
        exact List.mem_map.2 ⟨t, ht, rfl⟩
      have := bulk_mem hm'
      simp only [Rows.uptoBulk] at this
      have e : t.data.toList.length = t.size := by simp
      omega

theorem sum_le_of {α : Type} (l : List α) (f g : α → Nat) (h : ∀ i ∈ l, f i ≤ g i) : (l.map f).sum ≤ (l.map g).sum := by
  induction l with
  | nil => simp
  | cons a l ih =>
    have h1 := h a (by simp)
    have h2 := ih fun i hi => h i (by simp [hi])
    simp only [List.map_cons, List.sum_cons]
    omega

theorem sum_add_of {α : Type} (l : List α) (f : α → Nat) : (l.map fun i => 1 + f i).sum = l.length + (l.map f).sum := by
  induction l with
  | nil => simp
  | cons a l ih => simp only [List.map_cons, List.sum_cons, List.length_cons, ih]; omega

set_option maxRecDepth 100000 in
theorem open_fieldsU {H : Type} {enc : TypeId × Value → H} {W : World} {b0 : Nat} {v : Value} {dd : DataW H} {p : List MemPlace}
    (hv : Value.okWide Try.prog W .any b0 68 v) (h : DataW.Trod enc Try.prog W 0 (fun _ => true) true 68 v dd p) : ∃ d : List Fx, IsXs W v d ∧ FitX d ∧ d.length + totF (d.map Fx.fld) ≤ Rows.uptoBulk dd := by
  obtain ⟨a0, len, cap, rfl⟩ := okWide_slice Try.underlying68 hv
  obtain ⟨fuel, hf⟩ := h
  rcases open_slice_pairs Try.underlying68 Try.underlying90 Try.cellsFld rfl rfl Try.cellsStr Try.cellsStrs hf with ⟨hcs, _⟩ | ⟨a, l, c, m, n, V0, V1, D0, D1, P0, P1, hcs, _, hl, hm, hmm, hdat, hall⟩
  · simp [Value.cells] at hcs
    obtain ⟨rfl, rfl, rfl⟩ := hcs
    exact ⟨[], ⟨none, 0, rfl, Or.inl rfl, fun x hx => by simp at hx⟩, ⟨by unfold maxLen; simp, fun x hx => by simp at hx⟩, by simp [totF]⟩
  · simp [Value.cells] at hcs
    obtain ⟨rfl, rfl, rfl⟩ := hcs
    have hm' : m = cap := by simpa using hmm
    subst hm'
    have each : ∀ i, i < m → ∃ x : Fx, V0 i = .string x.name ∧ V1 i = x.sl ∧ TxtAt W x.p x.txt ∧ FitF x.fld ∧ x.txt.length + 1 ≤ Rows.uptoBulk (D1 i) := by
      intro i hi
      obtain ⟨_, _, h3, h4⟩ := hall i hi
      obtain ⟨s, e0, _, hs⟩ := DataW.trod_string Try.underlying9 h3
      simp only [List.cons.injEq, and_true] at e0
      obtain ⟨q, cc, ts, e1, ht, hft, hbk, _⟩ := open_txtU h4
      exact ⟨⟨s, q, cc, ts⟩, e0, e1, ht, ⟨hs, hft⟩, hbk⟩
    have hdd : dd = .slice ((List.range len).map fun i => .agg [D0 i, D1 i]) ((List.range (m - len)).map fun j => .agg [D0 (len + j), D1 (len + j)]) := congrArg Prod.fst hdat
    have hbulk : ((List.range len).map fun i => Rows.uptoBulk (D1 i)).sum ≤ Rows.uptoBulk dd := by
      rw [hdd]
      simp only [Rows.uptoBulk, bulk_sum, List.map_map]
      refine Nat.le_trans (sum_le_of (List.range len) _ (Rows.uptoBulk ∘ fun i => DataW.agg [D0 i, D1 i]) fun i _ => ?_) (by omega)
      simp only [Function.comp, Rows.uptoBulk, Rows.uptoBulkAll]
      omega
    by_cases h0 : len = 0
    · subst h0
      exact ⟨[], ⟨_, _, rfl, Or.inl rfl, fun x hx => by simp at hx⟩, ⟨by unfold maxLen; simp, fun x hx => by simp at hx⟩, by simp [totF]⟩
    · have hc0 := (hall 0 (by omega)).1
      obtain ⟨b, off, spot⟩ := a
      have hspot : spot = none := by simpa [Addr.add] using World.cell?_spot hc0
      subst hspot
      let f : Nat → Fx := fun i => if h : i < m then (each i h).choose else default
      have fs : ∀ i (h : i < m), V0 i = .string (f i).name ∧ V1 i = (f i).sl ∧ TxtAt W (f i).p (f i).txt ∧ FitF (f i).fld ∧ (f i).txt.length + 1 ≤ Rows.uptoBulk (D1 i) := fun i h => by
        have e : f i = (each i h).choose := dif_pos h
        rw [e]
        exact (each i h).choose_spec
      have hlen : ((List.range len).map f).length = len := by simp
      refine ⟨(List.range len).map f, ⟨_, m, by rw [hlen], Or.inr ⟨b, off, rfl, fun i hi => ?_⟩, fun x hx => ?_⟩, ⟨by rw [hlen]; omega, fun x hx => ?_⟩, ?_⟩
      · have hi0 : i < len := by simpa using hi
        obtain ⟨h1, h2, _, _⟩ := hall i (by omega)
        obtain ⟨g1, g2, _⟩ := fs i (by omega)
        rw [addr_add] at h1 h2
        have ef : ((List.range len).map f)[i]'hi = f i := by simp
        rw [ef, h1, ← g1]
        refine ⟨rfl, ?_⟩
        rw [Nat.add_assoc, h2, g2]
      · obtain ⟨i, hi, rfl⟩ := List.mem_map.1 hx
        exact (fs i (by have := List.mem_range.1 hi; omega)).2.2.1
      · obtain ⟨i, hi, rfl⟩ := List.mem_map.1 hx
        exact (fs i (by have := List.mem_range.1 hi; omega)).2.2.2.1
      · refine Nat.le_trans ?_ hbulk
        have e1 : totF (((List.range len).map f).map Fx.fld) = ((List.range len).map fun i => (f i).txt.length).sum := by
          unfold totF
          rw [List.map_map, List.map_map]
          rfl
        have e2 := sum_add_of (List.range len) fun i => (f i).txt.length
        rw [e1, hlen]
        rw [List.length_range] at e2
        rw [← e2]
        refine sum_le_of _ _ _ fun i hi => ?_
        have := (fs i (by have := List.mem_range.1 hi; omega)).2.2.2.2
        omega

theorem copy_of (d : List Fx) (h : d.length + totF (d.map Fx.fld) ≤ 1048576) : CopyX d :=
  ⟨by omega, fun x hx => by
    have := totF_mem (List.mem_map.2 ⟨x, hx, rfl⟩ : x.fld ∈ d.map Fx.fld)
    have e : x.fld.2.length = x.txt.length := rfl
    omega⟩

end Go.Proofs.Ytmihddbnddgfhaa

/-
  A slice of fields that came in, and what the sizes of its rows say (in an argument, or inside one).
-/
namespace Go.Proofs.Ytmihddbnddgfhaa
open Go.ChangeShapes Go.WideShapes Go.ChangeAt Go.RowKit Go.Lib Go.Deep Go.Joins

theorem Try.bytesStr : Try.prog.bytesOf 9 = 16 := by kernel_rfl
theorem Try.bytesFld : Try.prog.bytesOf 90 = 40 := by kernel_rfl

theorem weights_all {H : Type} {P : Program} {e : TypeId} {d : DataW H} {n : Nat} (hn : n ∈ d.weights P e) : ∀ {l : List (DataW H)}, d ∈ l → n ∈ DataW.weightsAll P e l
  | x :: r, h => by
    simp only [DataW.weightsAll, List.mem_append]
    rcases List.mem_cons.1 h with rfl | h
    · exact Or.inl hn
    · exact Or.inr (weights_all hn h)

/-- A slice of texts that came in, and its row's size. -/
theorem open_txtZ {H : Type} {enc : TypeId × Value → H} {W : World} {f : Nat} {v : Value} {x : DataW H × List MemPlace} (h : DataW.trod enc Try.prog W 0 (fun _ => true) true f 88 [v] = some x) :
    ∃ p cap, ∃ ts : List ByteArray, v = .slice p ts.length cap ∧ TxtAt W p ts ∧ FitT ts ∧ (ts.length = 0 ∨ ∃ n ∈ x.1.weights Try.prog 88, ts.length * 16 ≤ n) := by
  rcases open_strings Try.underlying88 Try.underlying9 Try.cellsStr h with ⟨hcs, hx⟩ | ⟨a, l, c, ss, hcs, _, hl, hm, hz, hx, hcell, hws⟩
  · simp at hcs
    exact ⟨none, 0, [], hcs, Or.inl rfl, ⟨by unfold maxLen; simp, fun t ht => by simp at ht⟩, Or.inl rfl⟩
  · simp at hcs
    have hz' : ss.length = c := by simpa using hz
    have hlen : (ss.take l).length = l := by rw [List.length_take]; omega
    refine ⟨some a, c, ss.take l, by rw [hlen]; exact hcs, ?_, ⟨by omega, fun t ht => hws t (List.mem_of_mem_take ht)⟩, Or.inr ?_⟩
    · by_cases h0 : l = 0
      · subst h0; exact Or.inl rfl
      · right
        have hc0 := hcell 0 (by omega)
        obtain ⟨b, off, spot⟩ := a
        have hspot : spot = none := by simpa [Addr.add] using World.cell?_spot hc0
        subst hspot
        refine ⟨b, off, rfl, fun i hi => ?_⟩
        rw [hlen] at hi
        have := hcell i (by omega)
        rw [addr_add] at this
        rw [this, List.getElem_take, List.getD_eq_getElem?_getD, List.getElem?_eq_getElem (by omega)]
        rfl
    · rw [hx, hlen]
      simp only [DataW.weights, Try.underlying88]
      refine ⟨_, List.mem_cons_self, ?_⟩
      rw [Try.bytesStr]
      have hb2 : (strs (ss.take l) : List (DataW H)).length = l := by rw [show (strs (ss.take l) : List (DataW H)).length = (ss.take l).length by simp [strs], hlen]
      rw [hb2]
      exact Nat.mul_le_mul_right 16 (by omega)

set_option maxRecDepth 100000 in
theorem open_fldsZ {H : Type} {enc : TypeId × Value → H} {W : World} {fuel : Nat} {v : Value} {dd : DataW H} {p : List MemPlace}
    (hf : DataW.trod enc Try.prog W 0 (fun _ => true) true fuel 68 [v] = some (dd, p)) (hZ : ∀ n ∈ dd.weights Try.prog 68, n ≤ reachBytes) : ∃ d : List Fx, IsXs W v d ∧ FitX d ∧ CopyX d := by
  have hrb := reachBytes_lt
  rcases open_slice_pairs Try.underlying68 Try.underlying90 Try.cellsFld rfl rfl Try.cellsStr Try.cellsStrs hf with ⟨hcs, _⟩ | ⟨a, len, cap, m, n, V0, V1, D0, D1, P0, P1, hcs, _, hl, hm, hmm, hdat, hall⟩
  · simp at hcs
    subst hcs
    exact ⟨[], ⟨none, 0, rfl, Or.inl rfl, fun x hx => by simp at hx⟩, ⟨by unfold maxLen; simp, fun x hx => by simp at hx⟩, by simp, fun x hx => by simp at hx⟩
  · simp at hcs
    subst hcs
    have hm' : m = cap := by simpa using hmm
    subst hm'
    have each : ∀ i, i < m → ∃ x : Fx, V0 i = .string x.name ∧ V1 i = x.sl ∧ TxtAt W x.p x.txt ∧ FitF x.fld ∧ (x.txt.length = 0 ∨ ∃ n ∈ (D1 i).weights Try.prog 88, x.txt.length * 16 ≤ n) := by
      intro i hi
      obtain ⟨_, _, h3, h4⟩ := hall i hi
      obtain ⟨s, e0, _, hs⟩ := DataW.trod_string Try.underlying9 h3
      simp only [List.cons.injEq, and_true] at e0
      obtain ⟨q, cc, ts, e1, ht, hft, hbk⟩ := open_txtZ h4
      exact ⟨⟨s, q, cc, ts⟩, e0, e1, ht, ⟨hs, hft⟩, hbk⟩
    have hdd : dd = .slice ((List.range len).map fun i => .agg [D0 i, D1 i]) ((List.range (m - len)).map fun j => .agg [D0 (len + j), D1 (len + j)]) := congrArg Prod.fst hdat
    have hwl : len * 40 ≤ reachBytes := by
      have := hZ ((((List.range len).map fun i => DataW.agg [D0 i, D1 i]).length + ((List.range (m - len)).map fun j => DataW.agg [D0 (len + j), D1 (len + j)]).length) * Try.prog.bytesOf 90) (by
        rw [hdd]
        simp only [DataW.weights, Try.underlying68]
        exact List.mem_cons_self)
      rw [Try.bytesFld] at this
      simp only [List.length_map, List.length_range] at this
      omega
    have hwi : ∀ i, i < len → ∀ n ∈ (D1 i).weights Try.prog 88, n ≤ reachBytes := fun i hi n hn => by
      refine hZ n ?_
      rw [hdd]
      simp only [DataW.weights, Try.underlying68]
      refine List.mem_cons_of_mem _ (List.mem_append.2 (Or.inl (weights_all (d := .agg [D0 i, D1 i]) ?_ (List.mem_map.2 ⟨i, List.mem_range.2 hi, rfl⟩))))
      simp only [DataW.weights, Try.underlying90]
      exact List.mem_append.2 (Or.inr (List.mem_append.2 (Or.inl hn)))
    by_cases h0 : len = 0
    · subst h0
      exact ⟨[], ⟨_, _, rfl, Or.inl rfl, fun x hx => by simp at hx⟩, ⟨by unfold maxLen; simp, fun x hx => by simp at hx⟩, by simp, fun x hx => by simp at hx⟩
    · have hc0 := (hall 0 (by omega)).1
      obtain ⟨b, off, spot⟩ := a
      have hspot : spot = none := by simpa [Addr.add] using World.cell?_spot hc0
      subst hspot
      let f : Nat → Fx := fun i => if h : i < m then (each i h).choose else default
      have fs : ∀ i (h : i < m), V0 i = .string (f i).name ∧ V1 i = (f i).sl ∧ TxtAt W (f i).p (f i).txt ∧ FitF (f i).fld ∧ ((f i).txt.length = 0 ∨ ∃ n ∈ (D1 i).weights Try.prog 88, (f i).txt.length * 16 ≤ n) := fun i h => by
        have e : f i = (each i h).choose := dif_pos h
        rw [e]
        exact (each i h).choose_spec
      have hlen : ((List.range len).map f).length = len := by simp
      refine ⟨(List.range len).map f, ⟨_, m, by rw [hlen], Or.inr ⟨b, off, rfl, fun i hi => ?_⟩, fun x hx => ?_⟩, ⟨by rw [hlen]; omega, fun x hx => ?_⟩, by rw [hlen]; omega, fun x hx => ?_⟩
      · have hi0 : i < len := by simpa using hi
        obtain ⟨h1, h2, _, _⟩ := hall i (by omega)
        obtain ⟨g1, g2, _⟩ := fs i (by omega)
        rw [addr_add] at h1 h2
        have ef : ((List.range len).map f)[i]'hi = f i := by simp
        rw [ef, h1, ← g1]
        refine ⟨rfl, ?_⟩
        rw [Nat.add_assoc, h2, g2]
      · obtain ⟨i, hi, rfl⟩ := List.mem_map.1 hx
        exact (fs i (by have := List.mem_range.1 hi; omega)).2.2.1
      · obtain ⟨i, hi, rfl⟩ := List.mem_map.1 hx
        exact (fs i (by have := List.mem_range.1 hi; omega)).2.2.2.1
      · obtain ⟨i, hi, rfl⟩ := List.mem_map.1 hx
        have hil := List.mem_range.1 hi
        rcases (fs i (by omega)).2.2.2.2 with h | ⟨n, hn, h⟩
        · omega
        · have := hwi i hil n hn
          omega

set_option maxRecDepth 100000 in
theorem open_fieldsZ {H : Type} {enc : TypeId × Value → H} {W : World} {b0 : Nat} {v : Value} {dd : DataW H} {p : List MemPlace}
    (hv : Value.okWide Try.prog W .any b0 68 v) (h : DataW.Trod enc Try.prog W 0 (fun _ => true) true 68 v dd p) (hZ : ∀ n ∈ dd.weights Try.prog 68, n ≤ reachBytes) : ∃ d : List Fx, IsXs W v d ∧ FitX d ∧ CopyX d := by
  obtain ⟨a0, len, cap, rfl⟩ := okWide_slice Try.underlying68 hv
  obtain ⟨fuel, hf⟩ := h
  exact open_fldsZ (by simpa [Value.cells] using hf) hZ

end Go.Proofs.Ytmihddbnddgfhaa

/-
  Finds in memory (stage 7), and the reference's SameFound.
-/
namespace Go.Proofs.Ytmihddbnddgfhaa
open Go.RowKit

/-- A find as it lies in memory: its key, and its version. -/
structure Fd where
  a : ByteArray
  b : ByteArray
  v : Vx
  deriving Inhabited

/-- A find by what it says. -/
abbrev Fnd := (ByteArray × ByteArray) × Vr

def Fd.fnd (x : Fd) : Fnd := ((x.a, x.b), x.v.ver)
def encFd (x : Fd) : List Value := .string x.a :: .string x.b :: encVx x.v
/-- The cells of a find, from o on in block b. -/
def CellsF (w : World) (b o : Nat) (x : Fd) : Prop := w.cell? ⟨b, o, none⟩ = some (.string x.a) ∧ w.cell? ⟨b, o + 1, none⟩ = some (.string x.b) ∧ CellsV w b (o + 2) x.v

end Go.Proofs.Ytmihddbnddgfhaa

/-
  Finds and keys that came in. No program.
-/
namespace Go.Proofs.Ytmihddbnddgfhaa
open Go.RowKit

def FitKy (k : Ky) : Prop := k.1.size ≤ maxLen ∧ k.2.size ≤ maxLen

end Go.Proofs.Ytmihddbnddgfhaa

/-
  Rows of any kind, keys, terms, versions and finds that came in: what the sizes of their rows say, and their bulk.
-/
namespace Go.Proofs.Ytmihddbnddgfhaa
open Go.ChangeShapes Go.WideShapes Go.ChangeAt Go.RowKit Go.Lib Go.Deep Go.Joins

theorem Try.cellsWInt : Try.prog.cellsOf 3 = 1 := by kernel_rfl
theorem Try.cellsWStr : Try.prog.cellsOf 9 = 1 := by kernel_rfl
theorem Try.cellsWU64 : Try.prog.cellsOf 28 = 1 := by kernel_rfl
theorem Try.cellsWI64 : Try.prog.cellsOf 2 = 1 := by kernel_rfl
theorem Try.cellsWBool : Try.prog.cellsOf 4 = 1 := by kernel_rfl
theorem Try.cellsWFs : Try.prog.cellsOf 68 = 1 := by kernel_rfl
theorem Try.cellsWTs : Try.prog.cellsOf 83 = 1 := by kernel_rfl
theorem Try.cellsWKey : Try.prog.cellsOf 67 = 2 := by kernel_rfl
theorem Try.cellsWTm : Try.prog.cellsOf 87 = 3 := by kernel_rfl
theorem Try.bytesWTm : Try.prog.bytesOf 87 = 40 := by kernel_rfl
theorem bulkW_pos {H : Type} (d : DataW H) : 1 ≤ Rows.uptoBulk d := by
  cases d with
  | lit l => cases l <;> simp [Rows.uptoBulk]
  | nil => simp [Rows.uptoBulk]
  | ptr d => simp [Rows.uptoBulk]
  | slice elems spare => simp [Rows.uptoBulk]
  | agg parts => simp [Rows.uptoBulk]
  | iface t d => simp [Rows.uptoBulk]
  | map entries => simp [Rows.uptoBulk]
  | held h => simp [Rows.uptoBulk]
theorem bulkW_mem {H : Type} {d : DataW H} {l : List (DataW H)} (h : d ∈ l) : Rows.uptoBulk d ≤ Rows.uptoBulkAll l := by
  induction l with
  | nil => cases h
  | cons x r ih =>
    simp only [Rows.uptoBulkAll]
    rcases List.mem_cons.1 h with rfl | h
    · omega
    · have := ih h; omega
theorem bulkW_len {H : Type} (l : List (DataW H)) : l.length ≤ Rows.uptoBulkAll l := by
  induction l with
  | nil => simp [Rows.uptoBulkAll]
  | cons x r ih => have := bulkW_pos x; simp only [Rows.uptoBulkAll, List.length_cons]; omega

set_option maxRecDepth 100000 in
/-- A slice that came in (or lies inside of what came in): its elements, each well; its row's size; its bulk. -/
theorem open_rowZ {α : Type} [Inhabited α] (K : Kind α) {S : TypeId} {bytes : Nat} (hS : Try.prog.underlying S = some (.slice K.T)) (hk : Try.prog.cellsOf K.T = K.k) (hby : Try.prog.bytesOf K.T = bytes)
    {H : Type} (Ok : α → DataW H → Prop) {enc : TypeId × Value → H} {W : World} {fuel : Nat} {v : Value} {dd : DataW H} {p : List MemPlace}
    (each1 : ∀ (n : Nat) (cs : List Value) (x : DataW H × List MemPlace), DataW.trod enc Try.prog W 0 (fun _ => true) true n K.T cs = some x → (∀ n ∈ x.1.weights Try.prog K.T, n ≤ reachBytes) → ∃ b : α, cs = K.enc b ∧ Ok b x.1)
    (hf : DataW.trod enc Try.prog W 0 (fun _ => true) true fuel S [v] = some (dd, p)) (hZ : ∀ n ∈ dd.weights Try.prog S, n ≤ reachBytes) :
    ∃ q : List α, K.Is W v q ∧ (∀ x ∈ q, ∃ d, Rows.uptoBulk d ≤ Rows.uptoBulk dd ∧ Ok x d) ∧ q.length * bytes ≤ reachBytes ∧ q.length ≤ maxLen ∧ q.length ≤ Rows.uptoBulk dd := by
  rcases open_slice hS hf with ⟨hcs, _⟩ | ⟨a, len, cap, m, n, D, Pl, hcs, _, hl, hm, hmm, hdat, hall⟩
  · simp at hcs
    subst hcs
    exact ⟨[], K.is_nil W, fun x hx => by simp at hx, by simp, by simp, by simp⟩
  · simp at hcs
    subst hcs
    have hm' : m = cap := by simpa using hmm
    subst hm'
    rw [hk] at hall
    have hdd : dd = .slice ((List.range len).map D) ((List.range (m - len)).map fun j => D (len + j)) := congrArg Prod.fst hdat
    have hlb : len * bytes ≤ reachBytes := by
      have := hZ ((((List.range len).map D).length + ((List.range (m - len)).map fun j => D (len + j)).length) * Try.prog.bytesOf K.T) (by
        rw [hdd]
        simp only [DataW.weights, hS]
        exact List.mem_cons_self)
      rw [hby] at this
      simp only [List.length_map, List.length_range] at this
      exact Nat.le_trans (Nat.mul_le_mul_right _ (Nat.le_add_right _ _)) this
    have hbk : len ≤ Rows.uptoBulk dd := by
      rw [hdd]
      simp only [Rows.uptoBulk]
      have := bulkW_len ((List.range len).map D)
      simp only [List.length_map, List.length_range] at this
      omega
    have hbi : ∀ i, i < len → Rows.uptoBulk (D i) ≤ Rows.uptoBulk dd := fun i hi => by
      rw [hdd]
      simp only [Rows.uptoBulk]
      have := bulkW_mem (d := D i) (l := (List.range len).map D) (List.mem_map.2 ⟨i, List.mem_range.2 hi, rfl⟩)
      omega
    have each : ∀ i, i < len → ∃ t : α, (∀ j u, (K.enc t)[j]? = some u → W.cell? (a.add (i * K.k + j)) = some u) ∧ Ok t (D i) := by
      intro i hi
      obtain ⟨cs', h1, h2⟩ := hall i (by omega)
      obtain ⟨_, hlen, hcell⟩ := World.cells?_some h1
      have hDi : ∀ n ∈ (D i).weights Try.prog K.T, n ≤ reachBytes := fun n hn => by
        refine hZ n ?_
        rw [hdd]
        simp only [DataW.weights, hS]
        exact List.mem_cons_of_mem _ (List.mem_append.2 (Or.inl (weights_all hn (List.mem_map.2 ⟨i, List.mem_range.2 hi, rfl⟩))))
      obtain ⟨t, rfl, hok⟩ := each1 _ _ (D i, Pl i) h2 hDi
      refine ⟨t, fun j u hu => ?_, hok⟩
      have hj : j < K.k := by
        have := (List.getElem?_eq_some_iff.1 hu).1
        rwa [K.len] at this
      have := hcell j hj
      rw [add_add] at this
      rw [this]; exact hu
    by_cases h0 : len = 0
    · subst h0
      exact ⟨[], ⟨_, _, rfl, Or.inl rfl⟩, fun x hx => by simp at hx, by simp, by simp, by simp⟩
    · obtain ⟨f, hff⟩ := choose_lt each
      have h1 : 0 < (K.enc (f 0)).length := by rw [K.len]; exact K.pos
      have hc0 := (hff 0 (by omega)).1 0 _ (List.getElem?_eq_getElem h1)
      obtain ⟨b, off, spot⟩ := a
      have hspot : spot = none := by simpa [Addr.add] using World.cell?_spot hc0
      subst hspot
      have hlen : ((List.range len).map f).length = len := by simp
      refine ⟨(List.range len).map f, ⟨_, m, by rw [hlen], Or.inr ⟨b, off, rfl, fun i hi j u hu => ?_⟩⟩, fun x hx => ?_, by rw [hlen]; exact hlb, by rw [hlen]; omega, by rw [hlen]; exact hbk⟩
      · have hi0 : i < len := by simpa using hi
        have ef : ((List.range len).map f)[i]'hi = f i := by simp
        rw [ef] at hu
        have := (hff i hi0).1 j u hu
        rw [_root_.Go.Proofs.Ytmihddbnddgfhaa.addr_add] at this
        rw [Nat.add_assoc]
        exact this
      · obtain ⟨i, hi, rfl⟩ := List.mem_map.1 hx
        exact ⟨D i, hbi i (List.mem_range.1 hi), (hff i (List.mem_range.1 hi)).2⟩

section
variable {H : Type} {enc : TypeId × Value → H} {W : World}

set_option maxRecDepth 100000 in
/-- One key, from its two cells. -/
theorem open_kyW {n : Nat} {cs : List Value} {x : DataW H × List MemPlace} (h : DataW.trod enc Try.prog W 0 (fun _ => true) true n 67 cs = some x) :
    ∃ k : Ky, cs = [.string k.1, .string k.2] ∧ FitKy k := by
  obtain ⟨xs, k, _, _, hlen, hxl, hf⟩ := DataW.trod_struct Try.underlying67 h
  rw [Try.cellsWKey] at hlen
  match cs, hlen with
  | [v0, v1], _ =>
    match xs, hxl with
    | [y0, y1], _ =>
      have g0 := hf 0 _ rfl
      have g1 := hf 1 _ rfl
      simp [Try.cellsWStr] at g0 g1
      obtain ⟨a, ea, _, ha⟩ := DataW.trod_string Try.underlying9 g0
      obtain ⟨b, eb, _, hb⟩ := DataW.trod_string Try.underlying9 g1
      simp only [List.cons.injEq, and_true] at ea eb
      exact ⟨(a, b), by rw [ea, eb], ha, hb⟩

set_option maxRecDepth 100000 in
/-- A key that came in. -/
theorem open_keyW {b0 : Nat} {v : Value} {d : DataW H} {p : List MemPlace}
    (hv : Value.okWide Try.prog W .any b0 67 v) (h : DataW.Trod enc Try.prog W 0 (fun _ => true) true 67 v d p) : ∃ k : Ky, v = .agg #[.string k.1, .string k.2] ∧ FitKy k := by
  obtain ⟨cs, rfl, hsz⟩ := okWide_struct Try.underlying67 hv
  obtain ⟨fuel, hf⟩ := h
  obtain ⟨k, hk, hfit⟩ := open_kyW (x := (d, p)) hf
  exact ⟨k, by
    have : cs.toList = [.string k.1, .string k.2] := by simpa [Value.cells] using hk
    rw [show cs = #[.string k.1, .string k.2] from Array.ext' (by rw [this])], hfit⟩

set_option maxRecDepth 100000 in
/-- One term, from its three cells. -/
theorem open_termW {n : Nat} {cs : List Value} {x : DataW H × List MemPlace} (h : DataW.trod enc Try.prog W 0 (fun _ => true) true n 87 cs = some x) :
    ∃ t : Tm, cs = encM t ∧ t.1.size ≤ maxLen ∧ t.2.2.size ≤ maxLen ∧ -9223372036854775808 ≤ t.2.1 ∧ t.2.1 ≤ 9223372036854775807 := by
  obtain ⟨xs, k, _, _, hlen, hxl, hf⟩ := DataW.trod_struct Try.underlying87 h
  rw [Try.cellsWTm] at hlen
  match cs, hlen with
  | [v0, v1, v2], _ =>
    match xs, hxl with
    | [y0, y1, y2], _ =>
      have g0 := hf 0 _ rfl
      have g1 := hf 1 _ rfl
      have g2 := hf 2 _ rfl
      simp [Try.cellsWStr, Try.cellsWInt] at g0 g1 g2
      obtain ⟨a, ea, _, ha⟩ := DataW.trod_string Try.underlying9 g0
      obtain ⟨o, eo, _, ho⟩ := DataW.trod_int Try.underlying3 g1
      obtain ⟨b, eb, _, hb⟩ := DataW.trod_string Try.underlying9 g2
      simp only [List.cons.injEq, and_true] at ea eo eb
      have hw : -9223372036854775808 ≤ o ∧ o ≤ 9223372036854775807 := by
        have := ho
        simp [Lit.wf, IntKind.min, IntKind.max, IntKind.signed, IntKind.bits] at this
        omega
      exact ⟨(a, o, b), by rw [ea, eo, eb]; rfl, ha, hb, hw.1, hw.2⟩

theorem open_termsW {fuel : Nat} {v : Value} {dd : DataW H} {p : List MemPlace}
    (hf : DataW.trod enc Try.prog W 0 (fun _ => true) true fuel 83 [v] = some (dd, p)) (hZ : ∀ n ∈ dd.weights Try.prog 83, n ≤ reachBytes) : ∃ q : List Tm, KM.Is W v q ∧ FitM q := by
  obtain ⟨q, h1, h2, _, h4, _⟩ := open_rowZ KM Try.underlying83 Try.cellsWTm Try.bytesWTm (fun t _ => t.1.size ≤ maxLen ∧ t.2.2.size ≤ maxLen ∧ -9223372036854775808 ≤ t.2.1 ∧ t.2.1 ≤ 9223372036854775807) (fun n cs x h _ => open_termW h) hf hZ
  exact ⟨q, h1, h4, fun x hx => (h2 x hx).choose_spec.2⟩

end

end Go.Proofs.Ytmihddbnddgfhaa

/-
  Marks, ranges, changes and keys that came in (stage 12): what the sizes of their rows say, and their bulk.
-/
namespace Go.Proofs.Ytmihddbnddgfhaa
open Go.ChangeShapes Go.WideShapes Go.ChangeAt Go.RowKit Go.Lib Go.Deep Go.Joins

theorem Try.cellsMRg : Try.prog.cellsOf 85 = 2 := by kernel_rfl
theorem Try.cellsMCh : Try.prog.cellsOf 70 = 6 := by kernel_rfl
theorem Try.cellsMMk : Try.prog.cellsOf 32 = 2 := by kernel_rfl
theorem Try.cellsMKs : Try.prog.cellsOf 29 = 1 := by kernel_rfl
theorem Try.cellsMRs : Try.prog.cellsOf 30 = 1 := by kernel_rfl
theorem Try.bytesMKy : Try.prog.bytesOf 67 = 32 := by kernel_rfl
theorem Try.bytesMRg : Try.prog.bytesOf 85 = 40 := by kernel_rfl
theorem Try.bytesMCh : Try.prog.bytesOf 70 = 96 := by kernel_rfl

section
variable {H : Type} {enc : TypeId × Value → H} {W : World}

/-- A slice's length is within its room. -/
theorem open_cap {S e : TypeId} (hS : Try.prog.underlying S = some (.slice e)) {fuel : Nat} {p : Option Addr} {n cap : Nat} {x : DataW H × List MemPlace} (h : DataW.trod enc Try.prog W 0 (fun _ => true) true fuel S [.slice p n cap] = some x) : n ≤ cap := by
  rcases open_slice hS h with ⟨hcs, _⟩ | ⟨a, len, c, m, k, D, Pl, hcs, _, hl, _⟩
  · simp at hcs
    omega
  · simp at hcs
    omega

set_option maxRecDepth 100000 in
/-- Keys. -/
theorem open_ksM {fuel : Nat} {v : Value} {dd : DataW H} {p : List MemPlace}
    (hf : DataW.trod enc Try.prog W 0 (fun _ => true) true fuel 29 [v] = some (dd, p)) (hZ : ∀ n ∈ dd.weights Try.prog 29, n ≤ reachBytes) :
    ∃ q : List Ky, KK.Is W v q ∧ (∀ k ∈ q, FitKy12 k) ∧ q.length ≤ Rows.uptoBulk dd ∧ q.length ≤ 4398046510976 := by
  have hrb : reachBytes = 140737488351232 := rfl
  obtain ⟨q, h1, h2, h3, _, h5⟩ := open_rowZ KK Try.underlying29 Try.cellsWKey Try.bytesMKy (fun k _ => FitKy12 k) (fun n cs x h _ => by
    obtain ⟨k, hk, hf⟩ := open_kyW h
    exact ⟨k, hk, hf⟩) hf hZ
  exact ⟨q, h1, fun k hk => (h2 k hk).choose_spec.2, h5, by omega⟩

set_option maxRecDepth 100000 in
theorem open_termsT {fuel : Nat} {v : Value} {dd : DataW H} {p : List MemPlace}
    (hf : DataW.trod enc Try.prog W 0 (fun _ => true) true fuel 83 [v] = some (dd, p)) (hZ : ∀ n ∈ dd.weights Try.prog 83, n ≤ reachBytes) : ∃ q : List Tm, KM.Is W v q ∧ FitP q ∧ q.length ≤ Rows.uptoBulk dd := by
  have hrb : reachBytes = 140737488351232 := rfl
  obtain ⟨q, h1, h2, h3, h4, h5⟩ := open_rowZ KM Try.underlying83 Try.cellsWTm Try.bytesWTm (fun t _ => t.1.size ≤ maxLen ∧ t.2.2.size ≤ maxLen ∧ -9223372036854775808 ≤ t.2.1 ∧ t.2.1 ≤ 9223372036854775807) (fun n cs x h _ => open_termW h) hf hZ
  exact ⟨q, h1, ⟨⟨h4, fun x hx => (h2 x hx).choose_spec.2⟩, by omega⟩, h5⟩

set_option maxRecDepth 100000 in
/-- One range, from its two cells. -/
theorem open_rgM {n : Nat} {cs : List Value} {x : DataW H × List MemPlace} (h : DataW.trod enc Try.prog W 0 (fun _ => true) true n 85 cs = some x) (hZ : ∀ n ∈ x.1.weights Try.prog 85, n ≤ reachBytes) :
    ∃ b : Rx, cs = encRx b ∧ b.at W := by
  obtain ⟨xs, k, _, hx, hlen, hxl, hf⟩ := DataW.trod_struct Try.underlying85 h
  rw [Try.cellsMRg] at hlen
  match cs, hlen with
  | [v0, v1], _ =>
    match xs, hxl with
    | [y0, y1], _ =>
      have g0 := hf 0 _ rfl
      have g1 := hf 1 _ rfl
      simp [Try.cellsWStr, Try.cellsWTs] at g0 g1
      obtain ⟨a, ea, _, _⟩ := DataW.trod_string Try.underlying9 g0
      have hz1 : ∀ n ∈ y1.1.weights Try.prog 83, n ≤ reachBytes := fun n hn => hZ n (by
        rw [hx]
        simp only [List.map_cons, List.map_nil, DataW.weights, Try.underlying85]
        exact List.mem_append.2 (Or.inr (List.mem_append.2 (Or.inl hn))))
      obtain ⟨t, ht, hft, _⟩ := open_termsT (dd := y1.1) (p := y1.2) g1 hz1
      simp only [List.cons.injEq, and_true] at ea
      obtain ⟨q, qc, rfl, _⟩ := id ht
      exact ⟨⟨a, q, qc, t⟩, by rw [ea]; rfl, ht, hft⟩

set_option maxRecDepth 100000 in
theorem open_rsM {fuel : Nat} {v : Value} {dd : DataW H} {p : List MemPlace}
    (hf : DataW.trod enc Try.prog W 0 (fun _ => true) true fuel 30 [v] = some (dd, p)) (hZ : ∀ n ∈ dd.weights Try.prog 30, n ≤ reachBytes) :
    ∃ q : List Rx, KRx.Is W v q ∧ (∀ r ∈ q, r.at W) ∧ q.length ≤ Rows.uptoBulk dd ∧ q.length ≤ 3518437208780 := by
  have hrb : reachBytes = 140737488351232 := rfl
  obtain ⟨q, h1, h2, h3, _, h5⟩ := open_rowZ KRx Try.underlying30 Try.cellsMRg Try.bytesMRg (fun r _ => r.at W) (fun n cs x h hz => open_rgM h hz) hf hZ
  exact ⟨q, h1, fun r hr => (h2 r hr).choose_spec.2, h5, by omega⟩

set_option maxRecDepth 100000 in
/-- Marks that came in. -/
theorem open_marksM {b0 : Nat} {v : Value} {dd : DataW H} {p : List MemPlace} (hv : Value.okWide Try.prog W .any b0 32 v) (h : DataW.Trod enc Try.prog W 0 (fun _ => true) true 32 v dd p) (hZ : ∀ n ∈ dd.weights Try.prog 32, n ≤ reachBytes) :
    ∃ m : Mx, v = .agg (encMx m).toArray ∧ MIn W m ∧ (∀ k ∈ m.ks, FitKy12 k) ∧ m.ks.length ≤ Rows.uptoBulk dd ∧ m.rs.length ≤ Rows.uptoBulk dd ∧ LenM m := by
  obtain ⟨cs, rfl, hsz⟩ := okWide_struct Try.underlying32 hv
  obtain ⟨fuel, hf0⟩ := h
  have hf1 : DataW.trod enc Try.prog W 0 (fun _ => true) true fuel 32 cs.toList = some (dd, p) := by simpa [Value.cells] using hf0
  obtain ⟨xs, k, _, hx, hlen, hxl, hf⟩ := DataW.trod_struct Try.underlying32 hf1
  rw [Try.cellsMMk] at hlen
  obtain ⟨v0, v1, hcs⟩ : ∃ v0 v1, cs.toList = [v0, v1] := by
    match hc : cs.toList, hlen with
    | [v0, v1], _ => exact ⟨v0, v1, rfl⟩
  rw [hcs] at hf
  match xs, hxl with
  | [y0, y1], _ =>
    have g0 := hf 0 _ rfl
    have g1 := hf 1 _ rfl
    simp [Try.cellsMKs, Try.cellsMRs] at g0 g1
    have hdd : dd = .agg ([y0, y1].map Prod.fst) := congrArg Prod.fst hx
    have hz0 : ∀ n ∈ y0.1.weights Try.prog 29, n ≤ reachBytes := fun n hn => hZ n (by
      rw [hdd]
      simp only [List.map_cons, List.map_nil, DataW.weights, Try.underlying32]
      exact List.mem_append.2 (Or.inl hn))
    have hz1 : ∀ n ∈ y1.1.weights Try.prog 30, n ≤ reachBytes := fun n hn => hZ n (by
      rw [hdd]
      simp only [List.map_cons, List.map_nil, DataW.weights, Try.underlying32]
      exact List.mem_append.2 (Or.inr (List.mem_append.2 (Or.inl hn))))
    obtain ⟨ks, hk1, hk2, hk3, hk4⟩ := open_ksM (dd := y0.1) (p := y0.2) g0 hz0
    obtain ⟨rs, hr1, hr2, hr3, hr4⟩ := open_rsM (dd := y1.1) (p := y1.2) g1 hz1
    have hb0 : Rows.uptoBulk y0.1 ≤ Rows.uptoBulk dd := by
      rw [hdd]
      simp only [Rows.uptoBulk]
      have := bulkW_mem (d := y0.1) (l := [y0, y1].map Prod.fst) (by simp)
      simp only [List.map_cons, List.map_nil] at this ⊢
      omega
    have hb1 : Rows.uptoBulk y1.1 ≤ Rows.uptoBulk dd := by
      rw [hdd]
      simp only [Rows.uptoBulk]
      have := bulkW_mem (d := y1.1) (l := [y0, y1].map Prod.fst) (by simp)
      simp only [List.map_cons, List.map_nil] at this ⊢
      omega
    obtain ⟨kp, kc, rfl, _⟩ := id hk1
    obtain ⟨rp, rc, rfl, _⟩ := id hr1
    refine ⟨⟨kp, kc, ks, rp, rc, rs⟩, ?_, ⟨hk1, hr1, hr2⟩, hk2, Nat.le_trans hk3 hb0, Nat.le_trans hr3 hb1, by show ks.length < _; omega, by show rs.length < _; omega⟩
    have : cs = #[.slice kp ks.length kc, .slice rp rs.length rc] := Array.ext' (by rw [hcs])
    rw [this]
    rfl

set_option maxRecDepth 100000 in
/-- One change, from its six cells. -/
theorem open_chM {n : Nat} {cs : List Value} {x : DataW H × List MemPlace} (h : DataW.trod enc Try.prog W 0 (fun _ => true) true n 70 cs = some x) (hZ : ∀ n ∈ x.1.weights Try.prog 70, n ≤ reachBytes) :
    ∃ b : Cx, cs = encCx b ∧ CIn W b ∧ FitKy12 (b.a, b.b) := by
  obtain ⟨xs, k, _, hx, hlen, hxl, hf⟩ := DataW.trod_struct Try.underlying70 h
  rw [Try.cellsMCh] at hlen
  match cs, hlen with
  | [v0, v1, v2, v3, v4, v5], _ =>
    match xs, hxl with
    | [y0, y1, y2, y3, y4], _ =>
      have g0 := hf 0 _ rfl
      have g1 := hf 1 _ rfl
      have g2 := hf 2 _ rfl
      have g3 := hf 3 _ rfl
      have g4 := hf 4 _ rfl
      simp [Try.cellsWKey, Try.cellsWBool, Try.cellsWFs] at g0 g1 g2 g3 g4
      obtain ⟨k, ek, hk⟩ := open_kyW g0
      obtain ⟨l1, e1, _⟩ := DataW.trod_bool Try.underlying4 g1
      obtain ⟨l3, e3, _⟩ := DataW.trod_bool Try.underlying4 g3
      have hz2 : ∀ n ∈ y2.1.weights Try.prog 68, n ≤ reachBytes := fun n hn => hZ n (by
        rw [hx]
        simp only [List.map_cons, List.map_nil, DataW.weights, Try.underlying70]
        exact List.mem_append.2 (Or.inr (List.mem_append.2 (Or.inr (List.mem_append.2 (Or.inl hn))))))
      have hz4 : ∀ n ∈ y4.1.weights Try.prog 68, n ≤ reachBytes := fun n hn => hZ n (by
        rw [hx]
        simp only [List.map_cons, List.map_nil, DataW.weights, Try.underlying70]
        exact List.mem_append.2 (Or.inr (List.mem_append.2 (Or.inr (List.mem_append.2 (Or.inr (List.mem_append.2 (Or.inr (List.mem_append.2 (Or.inl hn))))))))))
      obtain ⟨d2, hd2, hf2, hc2⟩ := open_fldsZ (dd := y2.1) (p := y2.2) g2 hz2
      obtain ⟨d4, hd4, hf4, hc4⟩ := open_fldsZ (dd := y4.1) (p := y4.2) g4 hz4
      simp only [List.cons.injEq, and_true] at ek e1 e3
      obtain ⟨p2, c2, rfl, _⟩ := id hd2
      obtain ⟨p4, c4, rfl, _⟩ := id hd4
      refine ⟨⟨k.1, k.2, l1, p2, c2, d2, l3, p4, c4, d4⟩, ?_, ⟨hd2, hf2, hd4, hf4, hc2, hc4⟩, hk⟩
      rw [ek.1, ek.2, e1, e3]
      rfl

set_option maxRecDepth 100000 in
theorem open_changesM {b0 : Nat} {v : Value} {dd : DataW H} {p : List MemPlace} (hv : Value.okWide Try.prog W .any b0 33 v) (h : DataW.Trod enc Try.prog W 0 (fun _ => true) true 33 v dd p) (hZ : ∀ n ∈ dd.weights Try.prog 33, n ≤ reachBytes) :
    ∃ (a : Option Addr) (cap : Nat) (l : List Cx), v = .slice a l.length cap ∧ ChgIn W (.slice a l.length cap) l ∧ l.length ≤ cap ∧ (∀ c ∈ l, FitKy12 (c.a, c.b)) ∧ l.length ≤ Rows.uptoBulk dd ∧ l.length < 1500000000000 := by
  have hrb := reachBytes_lt
  obtain ⟨a0, len, cap, rfl⟩ := okWide_slice Try.underlying33 hv
  obtain ⟨fuel, hf⟩ := h
  have hf' : DataW.trod enc Try.prog W 0 (fun _ => true) true fuel 33 [.slice a0 len cap] = some (dd, p) := by simpa [Value.cells] using hf
  obtain ⟨q, h1, h2, h3, _, h5⟩ := open_rowZ KCx Try.underlying33 Try.cellsMCh Try.bytesMCh (fun c _ => CIn W c ∧ FitKy12 (c.a, c.b)) (fun n cs x h hz => open_chM h hz) hf' hZ
  obtain ⟨p', c', he, _⟩ := id h1
  injection he with e1 e2 e3
  subst e1 e3
  subst e2
  exact ⟨_, _, q, rfl, ⟨h1, fun c hc => (h2 c hc).choose_spec.2.1⟩, open_cap Try.underlying33 hf', fun c hc => (h2 c hc).choose_spec.2.2, h5, by omega⟩

set_option maxRecDepth 100000 in
theorem open_rangeM {b0 : Nat} {v : Value} {dd : DataW H} {p : List MemPlace} (hv : Value.okWide Try.prog W .any b0 85 v) (h : DataW.Trod enc Try.prog W 0 (fun _ => true) true 85 v dd p) (hZ : ∀ n ∈ dd.weights Try.prog 85, n ≤ reachBytes) :
    ∃ r : Rx, v = .agg (encRx r).toArray ∧ r.at W := by
  obtain ⟨cs, rfl, hsz⟩ := okWide_struct Try.underlying85 hv
  obtain ⟨fuel, hf0⟩ := h
  obtain ⟨r, hr, hat⟩ := open_rgM (x := (dd, p)) (cs := cs.toList) (by simpa [Value.cells] using hf0) hZ
  exact ⟨r, by rw [show cs = (encRx r).toArray from Array.ext' (by rw [hr])], hat⟩
set_option maxRecDepth 100000 in
theorem open_changeM {b0 : Nat} {v : Value} {dd : DataW H} {p : List MemPlace} (hv : Value.okWide Try.prog W .any b0 70 v) (h : DataW.Trod enc Try.prog W 0 (fun _ => true) true 70 v dd p) (hZ : ∀ n ∈ dd.weights Try.prog 70, n ≤ reachBytes) :
    ∃ c : Cx, v = .agg (encCx c).toArray ∧ CIn W c := by
  obtain ⟨cs, rfl, hsz⟩ := okWide_struct Try.underlying70 hv
  obtain ⟨fuel, hf0⟩ := h
  obtain ⟨c, hc, hin, _⟩ := open_chM (x := (dd, p)) (cs := cs.toList) (by simpa [Value.cells] using hf0) hZ
  exact ⟨c, by rw [show cs = (encCx c).toArray from Array.ext' (by rw [hc])], hin⟩
set_option maxRecDepth 100000 in
theorem open_keysM {b0 : Nat} {v : Value} {dd : DataW H} {p : List MemPlace} (hv : Value.okWide Try.prog W .any b0 29 v) (h : DataW.Trod enc Try.prog W 0 (fun _ => true) true 29 v dd p) (hZ : ∀ n ∈ dd.weights Try.prog 29, n ≤ reachBytes) :
    ∃ q : List Ky, KK.Is W v q ∧ (∀ k ∈ q, FitKy12 k) ∧ q.length ≤ Rows.uptoBulk dd ∧ q.length ≤ 4398046510976 := by
  obtain ⟨a0, len, cap, rfl⟩ := okWide_slice Try.underlying29 hv
  obtain ⟨fuel, hf⟩ := h
  exact open_ksM (dd := dd) (p := p) (by simpa [Value.cells] using hf) hZ
set_option maxRecDepth 100000 in
theorem open_rangesM {b0 : Nat} {v : Value} {dd : DataW H} {p : List MemPlace} (hv : Value.okWide Try.prog W .any b0 30 v) (h : DataW.Trod enc Try.prog W 0 (fun _ => true) true 30 v dd p) (hZ : ∀ n ∈ dd.weights Try.prog 30, n ≤ reachBytes) :
    ∃ q : List Rx, KRx.Is W v q ∧ (∀ r ∈ q, r.at W) ∧ q.length ≤ Rows.uptoBulk dd ∧ q.length ≤ 3518437208780 := by
  obtain ⟨a0, len, cap, rfl⟩ := okWide_slice Try.underlying30 hv
  obtain ⟨fuel, hf⟩ := h
  exact open_rsM (dd := dd) (p := p) (by simpa [Value.cells] using hf) hZ
set_option maxRecDepth 100000 in
theorem open_intM {b0 : Nat} {v : Value} {d : DataW H} {p : List MemPlace} (hv : Value.okWide Try.prog W .any b0 3 v) (h : DataW.Trod enc Try.prog W 0 (fun _ => true) true 3 v d p) : ∃ t, v = .int .i64 t ∧ -9223372036854775808 ≤ t ∧ t ≤ 9223372036854775807 := by
  obtain ⟨n, rfl, _, _, hw⟩ := open_int Try.underlying3 hv h
  have hws : -9223372036854775808 ≤ n ∧ n ≤ 9223372036854775807 := by
    simp [Lit.wf, IntKind.min, IntKind.max, IntKind.signed, IntKind.bits] at hw
    omega
  exact ⟨n, rfl, hws⟩
end

end Go.Proofs.Ytmihddbnddgfhaa

/-
  Is there an order (stage 13)? Each time one goes ahead of which none must stand that hasn't gone.
-/
namespace Go.Proofs.Ytmihddbnddgfhaa
open Go.RowKit

/-- May the one at i go, as far as those before k say? -/
def freeG (A : Nat → Nat → Bool) (G : List Bool) (i k : Nat) : Bool := !G.getD i true && (List.range k).all fun j => G.getD j true || (decide (i = j) || !A j i)
def condG (A : Nat → Nat → Bool) (G : List Bool) (i j : Nat) : Bool := G.getD j true || (decide (i = j) || !A j i)

theorem freeG_zero (A : Nat → Nat → Bool) (G : List Bool) (i : Nat) : freeG A G i 0 = !G.getD i true := by simp [freeG]
theorem freeG_succ (A : Nat → Nat → Bool) (G : List Bool) (i k : Nat) : freeG A G i (k + 1) = (freeG A G i k && condG A G i k) := by
  unfold freeG condG
  rw [List.range_succ, List.all_append]
  simp [Bool.and_assoc]
theorem freeG_down {A : Nat → Nat → Bool} {G : List Bool} {i k n : Nat} (h : freeG A G i k = false) (hk : k ≤ n) : freeG A G i n = false := by
  induction n with
  | zero =>
    obtain rfl : k = 0 := by omega
    exact h
  | succ n ih =>
    by_cases e : k = n + 1
    · rw [← e]; exact h
    · rw [freeG_succ, ih (by omega)]
      rfl

/-- How many haven't gone. -/
def leftG (G : List Bool) : Nat := G.countP fun b => !b
theorem leftG_set {G : List Bool} {i : Nat} (h : G.getD i true = false) : leftG (G.set i true) + 1 = leftG G := by
  induction G generalizing i with
  | nil => simp at h
  | cons b G ih =>
    cases i with
    | zero =>
      simp at h
      subst h
      simp [leftG]
    | succ i =>
      have := ih (i := i) (by simpa using h)
      unfold leftG at this ⊢
      simp only [List.set_cons_succ, List.countP_cons]
      omega
theorem left_some {G : List Bool} (h : 0 < leftG G) : ∃ i, i < G.length ∧ G.getD i true = false := by
  obtain ⟨b, hb, hn⟩ := List.countP_pos_iff.1 h
  obtain ⟨i, hi, rfl⟩ := List.mem_iff_getElem.1 hb
  exact ⟨i, hi, by simpa [List.getD, hi] using hn⟩

/-- One is free, as long as one hasn't gone. -/
theorem free_some {t : Tk} {l : List Dn} (h : SerT t l) {G : List Bool} (hG : G.length = l.length) (hp : 0 < leftG G) : ∃ i, i < l.length ∧ freeG (aheadT l) G i l.length = true := by
  obtain ⟨i0, hi0, hg0⟩ := left_some hp
  obtain ⟨i, hi, hgi, hmin⟩ := free_one h (fun i => G.getD i true) ⟨i0, by omega, hg0⟩
  refine ⟨i, hi, ?_⟩
  unfold freeG
  rw [hgi]
  simp only [Bool.not_false, Bool.true_and, List.all_eq_true, List.mem_range]
  intro j hj
  cases e : G.getD j true with
  | true => rfl
  | false =>
    by_cases ej : i = j
    · simp [ej]
    · rw [hmin j hj e (fun e' => ej e'.symm)]
      simp

/-- The flags, in block N. -/
structure GSt (W : World) (N : Nat) (G : List Bool) (w : World) : Prop where
  bel : Below W.heap.size W w
  obj : w.heap[N]? = some (.cells (G.map Value.bool).toArray 4 (0, 0))
theorem GSt.on {W w w' : World} {N : Nat} {G : List Bool} (h : GSt W N G w) (hb : Below w.heap.size w w') : GSt W N G w' :=
  ⟨bel_then h.bel h.bel.size hb, (hb.block N (Array.getElem?_eq_some_iff.1 h.obj).1).trans h.obj⟩
theorem GSt.cell {W w : World} {N : Nat} {G : List Bool} (h : GSt W N G w) {i : Nat} (hi : i < G.length) : w.cell? ⟨N, i, none⟩ = some (.bool (G.getD i true)) ∧ w.frozen? ⟨N, i, none⟩ = false := by
  refine ⟨?_, Lib.frozen_of_heap h.obj i⟩
  rw [Lib.cell_of_heap h.obj]
  simp [List.getD, hi]
theorem GSt.set {W w : World} {N : Nat} {G : List Bool} (h : GSt W N G w) (hN : W.heap.size ≤ N) (i : Nat) : GSt W N (G.set i true) (w.setCell ⟨N, i, none⟩ (.bool true)) := by
  refine ⟨h.bel.setCell hN _, ?_⟩
  rw [heap_setCell_same w N i _ _ _ h.obj]
  congr 1
  congr 1
  simp [List.map_set]

set_option maxHeartbeats 8000000 in
set_option maxRecDepth 100000 in
theorem ordered13_any (p : Option Addr) (cap : Nat) (l : List Dx) (W : World) (hl : KDx.Is W (.slice p l.length cap) l) (hx : ∀ x ∈ l, DIn W x) (hll : l.length ≤ 1000000) {t : Tk} (hs : SerT t (l.map Dx.dn)) :
    Calls Try.prog 23 #[.slice p l.length cap] W fun e w' => e = .returned (.bool true) ∧ Below W.heap.size W w' := by
  obtain ⟨n, hn⟩ : ∃ n, l.length = n := ⟨_, rfl⟩
  obtain ⟨N, hN⟩ : ∃ N, W.heap.size = N := ⟨_, rfl⟩
  obtain ⟨A, hA⟩ : ∃ A, aheadT (l.map Dx.dn) = A := ⟨_, rfl⟩
  have HAH : Hid (∀ W' i j, Below W.heap.size W W' → i < n → j < n → Calls Try.prog 38 #[.slice p n cap, .int .i64 (i : Nat), .int .i64 (j : Nat)] W' fun e w' => e = .returned (.bool (A i j)) ∧ Below W'.heap.size W' w') := fun W' i j hb hi hj => by
    have := ahead13_any p cap l i j W' (Kind.is_kept hl hb) (fun x hxx => (hx x hxx).on hb) (by omega) (by omega)
    rw [hn, hA] at this
    exact this
  have HFR : Hid (∀ G : List Bool, G.length = n → 0 < leftG G → ∃ i, i < n ∧ freeG A G i n = true) := fun G hG hp => by
    have := free_some hs (G := G) (by rw [List.length_map]; omega) hp
    rw [List.length_map, hn, hA] at this
    exact this
  have hi0 : (Try.prog.info? 4).isSome = true := by kernel_rfl
  have HMK : Hid ((Instr.makeSlice 42 (.int .i64 (n : Int)) (.int .i64 (n : Int))).run Try.prog W = .ok (.slice (some ⟨N, 0, none⟩) n n) (W.alloc (.cells ((List.replicate n false).map Value.bool).toArray 4))) := by
    have h1 : ∃ i, Try.prog.info? 4 = some i ∧ i.zero = some (.bool false) ∧ i.size = 1 ∧ i.bytes = 1 := ⟨(Try.prog.info? 4).get hi0, (Option.some_get hi0).symm, by kernel_rfl, by kernel_rfl, by kernel_rfl⟩
    obtain ⟨i, e1, e2, e3, e4⟩ := h1
    have := run_make (P := Try.prog) W 42 4 i (.bool false) Try.underlying42 e1 e2 .i64 .i64 (n : Int) (n : Int) (by omega) (by omega) (by rw [e4]; omega) (by omega)
    show _ = _
    rw [this, e3, hN, Int.toNat_natCast]
    congr 3
    simp only [madeCells, Value.cells, Nat.mul_one, List.map_replicate]
    refine Array.ext (by simp) fun k h1 h2 => by simp [Nat.mod_one]
  have HG0 : Hid (GSt W N (List.replicate n false) (W.alloc (.cells ((List.replicate n false).map Value.bool).toArray 4))) := ⟨(Below.refl _ _).alloc (Nat.le_refl _) _, by rw [← hN]; exact heap_alloc_new W _⟩
  have HL0 : Hid (leftG (List.replicate n false) = n) := by show _ = _; simp [leftG, List.countP_replicate]
  rw [hn] at hll ⊢
  obtain ⟨V, hV⟩ : ∃ V, W.alloc (.cells ((List.replicate n false).map Value.bool).toArray 4) = V := ⟨_, rfl⟩
  rw [hV] at HMK HG0
  have hmk := HMK.out
  clear hl hx hs hA hi0 hV HMK
  go_enter Try.func23, Try.ntmps23
  go_wp2_with fail
  go_loopg [13] n (fun gg vi wr => ∃ (r : Nat) (G : List Bool), vi = .int .i64 r ∧ r ≤ n ∧ n - r ≤ gg ∧ G.length = n ∧ Hid (leftG G + r = n) ∧ Hid (GSt W N G wr))
  case atStart => exact ⟨0, List.replicate n false, rfl, by omega, by omega, by simp, (by show _ = _; have := HL0.out; omega), HG0.out⟩
  case round =>
    clear HG0 HL0
    obtain ⟨r, G, rfl, hr, hgk, hGl, HLG, HG⟩ := hrel
    by_cases hlt : r < n
    · have hltz : (r : Int) < (n : Int) := by omega
      have HFS := hid (HFR.out G hGl (by have := HLG.out; omega))
      go_wp2_with fail
      go_loopg [4, 5] (n + 1) (fun gg2 v4 v5 wr2 => ∃ (i : Nat) (fnd : Bool) (G2 : List Bool), v4 = .bool fnd ∧ v5 = .int .i64 i ∧ i ≤ n ∧ n + 1 - i ≤ gg2 ∧ G2.length = n ∧ Hid (GSt W N G2 wr2) ∧ Hid ((fnd = false ∧ G2 = G ∧ ∀ k, k < i → freeG A G k n = false) ∨ (fnd = true ∧ leftG G2 + 1 = leftG G)))
      case atStart => exact ⟨0, false, G, rfl, rfl, by omega, by omega, hGl, HG.out, Or.inl ⟨rfl, rfl, fun k hk => by omega⟩⟩
      case round =>
        obtain ⟨i, fnd, G2, rfl, rfl, hi, hg2, hG2l, HG2, HC⟩ := hrel
        cases fnd with
        | true =>
          have HLF : Hid (leftG G2 + 1 = leftG G) := by
            rcases HC.out with h | h
            · cases h.1
            · exact h.2
          by_cases hin : i < n
          · have hinz : (i : Int) < (n : Int) := by omega
            go_wp2_with fail
            go_roundg (n - (r + 1))
            case measure => omega
            exact ⟨r + 1, G2, by go_num, by omega, by omega, hG2l, (by show _ = _; have h1 := HLF.out; have h2 := HLG.out; omega), HG2.out⟩
          · have hinz : ¬ (i : Int) < (n : Int) := by omega
            go_wp2_with fail
            go_roundg (n - (r + 1))
            case measure => omega
            exact ⟨r + 1, G2, by go_num, by omega, by omega, hG2l, (by show _ = _; have h1 := HLF.out; have h2 := HLG.out; omega), HG2.out⟩
        | false =>
          have HNF : Hid (G2 = G ∧ ∀ k, k < i → freeG A G k n = false) := by
            rcases HC.out with h | h
            · exact h.2
            · cases h.1
          obtain ⟨rfl, hnf⟩ := HNF.out
          have HNF2 := hid hnf
          clear hnf HNF HC
          by_cases hin : i < n
          · have hinz : (i : Int) < (n : Int) := by omega
            have hiz : (0 : Int) ≤ (i : Int) := by omega
            obtain ⟨c0, c1⟩ := HG2.out.cell (i := i) (by omega)
            have HF0 := hid (freeG_zero A G2 i)
            have HGI : Hid (freeG A G2 i n = true → G2.getD i true = false) := fun h => by
              unfold freeG at h
              rw [Bool.and_eq_true] at h
              simpa using h.1
            obtain ⟨gi, hgi⟩ : ∃ b, G2.getD i true = b := ⟨_, rfl⟩
            rw [hgi] at c0 HF0
            clear hgi
            go_wp2_with fail
            go_loopg [6, 7] n (fun gg3 v6 v7 wr3 => ∃ (j : Nat) (fr : Bool), v6 = .bool fr ∧ v7 = .int .i64 j ∧ j ≤ n ∧ n - j ≤ gg3 ∧ Hid (fr = freeG A G2 i j) ∧ Hid (GSt W N G2 wr3))
            case atStart => exact ⟨0, !gi, rfl, rfl, by omega, by omega, HF0.out.symm, HG2.out⟩
            case round =>
              clear c0 c1
              obtain ⟨j, fr, rfl, rfl, hj, hg3, HFJ, HG3⟩ := hrel
              cases fr with
              | false =>
                have HNO : Hid (∀ k, k < i + 1 → freeG A G2 k n = false) := fun k hk => by
                  by_cases e : k = i
                  · rw [e]; exact freeG_down HFJ.out.symm hj
                  · exact HNF2.out k (by omega)
                by_cases hjn : j < n
                · have hjz : (j : Int) < (n : Int) := by omega
                  go_wp2_with fail
                  go_roundg (n + 1 - (i + 1))
                  case measure => omega
                  exact ⟨i + 1, false, G2, rfl, by go_num, by omega, by omega, hG2l, HG3.out, Or.inl ⟨rfl, rfl, HNO.out⟩⟩
                · have hjz : ¬ (j : Int) < (n : Int) := by omega
                  go_wp2_with fail
                  go_roundg (n + 1 - (i + 1))
                  case measure => omega
                  exact ⟨i + 1, false, G2, rfl, by go_num, by omega, by omega, hG2l, HG3.out, Or.inl ⟨rfl, rfl, HNO.out⟩⟩
              | true =>
                by_cases hjn : j < n
                · have hjz : (j : Int) < (n : Int) := by omega
                  have hj0 : (0 : Int) ≤ (j : Int) := by omega
                  obtain ⟨d0, d1⟩ := HG3.out.cell (i := j) (by omega)
                  have HSU := hid (freeG_succ A G2 i j)
                  have HCO : Hid (condG A G2 i j = (G2.getD j true || (decide (i = j) || !A j i))) := rfl
                  obtain ⟨gj, hgj⟩ : ∃ b, G2.getD j true = b := ⟨_, rfl⟩
                  rw [hgj] at d0 HCO
                  clear hgj
                  cases gj with
                  | true =>
                    go_wp2_with fail
                    go_roundg (n - (j + 1))
                    case measure => omega
                    exact ⟨j + 1, true, rfl, by go_num, by omega, by omega, (by show _ = _; rw [HSU.out, ← HFJ.out, HCO.out]; rfl), HG3.out⟩
                  | false =>
                    by_cases eij : i = j
                    · have hez : ((i : Int) == (j : Int)) = true := by simp [eij]
                      have hez2 : (i : Int) = (j : Int) := by omega
                      have HCO2 : Hid (condG A G2 i j = true) := by show _ = _; rw [HCO.out, decide_eq_true eij]; rfl
                      clear HCO
                      go_wp2_with fail
                      go_roundg (n - (j + 1))
                      case measure => omega
                      exact ⟨j + 1, true, rfl, by go_num, by omega, by omega, (by show _ = _; rw [HSU.out, ← HFJ.out, HCO2.out]; rfl), HG3.out⟩
                    · have hez : ((i : Int) == (j : Int)) = false := by simp; omega
                      have hez2 : ¬ (i : Int) = (j : Int) := by omega
                      have HCL := hid (HAH.out wr j i HG3.out.bel hjn hin)
                      have HCO2 : Hid (condG A G2 i j = !A j i) := by show _ = _; rw [HCO.out, decide_eq_false eij]; rfl
                      clear HCO
                      obtain ⟨aj, haj⟩ : ∃ b, A j i = b := ⟨_, rfl⟩
                      rw [haj] at HCL HCO2
                      clear haj
                      go_wp2_with (go_at_call 38; refine HCL.out.mono ?_; rintro e w6 ⟨rfl, hb6⟩; have HG6 := hid (HG3.out.on hb6); clear hb6)
                      go_roundg (n - (j + 1))
                      case measure => omega
                      exact ⟨j + 1, !aj, rfl, by go_num, by omega, by omega, (by show _ = _; rw [HSU.out, ← HFJ.out, HCO2.out]; rfl), HG6.out⟩
                · have hjz : ¬ (j : Int) < (n : Int) := by omega
                  obtain rfl : j = n := by omega
                  obtain ⟨d0, d1⟩ := HG3.out.cell (i := i) (by omega)
                  have HG4 := hid (HG3.out.set (by omega) i)
                  have HLF := hid (leftG_set (HGI.out HFJ.out.symm))
                  go_wp2_with fail
                  go_roundg (j + 1 - (i + 1))
                  case measure => omega
                  exact ⟨i + 1, true, G2.set i true, rfl, by go_num, by omega, by omega, by rw [List.length_set]; exact hG2l, HG4.out, Or.inr ⟨rfl, HLF.out⟩⟩
          · have hinz : ¬ (i : Int) < (n : Int) := by omega
            obtain ⟨k, hk, hf⟩ := HFS.out
            have := HNF2.out k (by omega)
            rw [this] at hf
            cases hf
    · have hltz : ¬ (r : Int) < (n : Int) := by omega
      go_wp2_with fail
      go_ret
      rw [← hN]
      exact ⟨rfl, HG.out.bel⟩

end Go.Proofs.Ytmihddbnddgfhaa

/-
  TrackSerial (stage 13): done ones that were checked one after the other can be put in an order.
-/
namespace Go.Proofs.Ytmihddbnddgfhaa
open Go.RowKit

/-- A transaction to be checked, as it lies in memory. -/
structure Ty13 where
  back : Int
  m : Mx
  cp : Option Addr
  cc : Nat
  cs : List Cx
  deriving Inhabited
def Ty13.csl (x : Ty13) : Value := .slice x.cp x.cs.length x.cc
def encTy (x : Ty13) : List Value := [.int .u8 x.back, x.m.ksl, x.m.rsl, x.csl]
def KTy : Kind Ty13 := ⟨57, 4, encTy, fun _ => rfl, by decide, fun x u hu => by simp [encTy, Mx.ksl, Mx.rsl, Ty13.csl] at hu; rcases hu with rfl | rfl | rfl | rfl <;> rfl⟩
theorem kty_at {w : World} {b off : Nat} {d : List Ty13} (h : KTy.At w b off d) (i : Nat) (hi : i < d.length) :
    w.cell? ⟨b, off + i * 4, none⟩ = some (.int .u8 (d[i]).back) ∧ w.cell? ⟨b, off + i * 4 + 1, none⟩ = some (d[i]).m.ksl ∧ w.cell? ⟨b, off + i * 4 + 2, none⟩ = some (d[i]).m.rsl ∧ w.cell? ⟨b, off + i * 4 + 3, none⟩ = some (d[i]).csl :=
  ⟨h i hi 0 _ rfl, h i hi 1 _ rfl, h i hi 2 _ rfl, h i hi 3 _ rfl⟩
structure TIn (W : World) (x : Ty13) : Prop where
  mrk : MIn W x.m
  chg : ChgIn W x.csl x.cs
  sz : SzD x.m x.cs
  back : 0 ≤ x.back ∧ x.back ≤ 255
theorem TIn.on {W W' : World} {x : Ty13} (h : TIn W x) (hb : Below W.heap.size W W') : TIn W' x := ⟨h.mrk.on hb, h.chg.on hb, h.sz, h.back⟩

/-- A tracker of the program, and a list of done ones beside it. -/
structure SeSt (S : TrackApi) (W : World) (g : Nat) (t : Tk) (v : Value) (ds : List Dx) (w : World) : Prop where
  ex : ∃ B, S.Prg W.heap.size w B g t ∧ ∀ k, B k → v.ownBlock ≠ some k
  row : RowSt KDx W.heap.size W v ds w

section
variable {S : TrackApi} {W : World} {g : Nat} {t : Tk} {v : Value} {ds : List Dx} {w : World}
theorem SeSt.on {w' : World} (h : SeSt S W g t v ds w) (hb : Below w.heap.size w w') : SeSt S W g t v ds w' := by
  obtain ⟨B, h1, h2⟩ := h.ex
  exact ⟨⟨B, TrackApi.on h1 hb, h2⟩, h.row.on hb⟩
theorem SeSt.ok (h : SeSt S W g t v ds w) : OkT t := by
  obtain ⟨B, h1, _⟩ := h.ex
  exact S.ok h1
theorem se_check (h : SeSt S W g t v ds w) (s : Int) (m : Mx) (u : Value) (cs : List Cx) (h0 : 0 ≤ s) (hs : s ≤ 18446744073709551615) (hm : MIn w m) (hc : ChgIn w u cs) (hz : SzD m cs) :
    Calls Try.prog 20 #[.pointer (some ⟨g, 0, none⟩), .int .u64 s, .agg (encMx m).toArray, u] w fun e w' => e = .returned (.tuple #[.bool (checkT t s m.mk' (cs.map Cx.ch)).1, .int .i64 (checkT t s m.mk' (cs.map Cx.ch)).2]) ∧ Below w.heap.size w w' := by
  obtain ⟨B, h1, _⟩ := h.ex
  exact S.check h1 s m u cs h0 hs hm hc hz
theorem se_add (h : SeSt S W g t v ds w) {w4 : World} (hb : Below w.heap.size w w4) (d : Dx) (hd : DIn w4 d) :
    Calls Try.prog 22 #[.pointer (some ⟨g, 0, none⟩), .agg (encDx d).toArray] w4 fun e w' => e = .returned (.int .i64 (addT t d.dn).1) ∧ SeSt S W g (addT t d.dn).2 v ds w' ∧ ∀ b, w.heap.size ≤ b → b < w4.heap.size → w'.heap[b]? = w4.heap[b]? := by
  obtain ⟨B, h1, h2⟩ := h.ex
  have h4 := h.on hb
  have hB : ∀ k, B k → W.heap.size ≤ k ∧ k < w.heap.size := fun k hk => S.blk h1 k hk
  refine (S.add (TrackApi.on h1 hb) (Nat.le_trans h.row.base hb.size) d hd).mono fun e w' q => ⟨q.1, ?_, ?_⟩
  · obtain ⟨B', g1, g2, g3⟩ := q.2
    refine ⟨⟨B', g1, fun k hk e => ?_⟩, ⟨g2.row h4.row.own fun k hk hBk => h2 k hBk hk, h4.row.bel.trans (g2.below h4.row.base fun k hk => (hB k hk).1), Nat.le_trans h4.row.base g2.size⟩⟩
    rcases g3 k hk with hk | hk
    · exact h2 k hk e
    · have := (World.ownsRow.lt h4.row.own k e).2
      omega
  · obtain ⟨B', _, g2, _⟩ := q.2
    exact fun b hb1 hb2 => g2.block b hb2 fun hBk => by have := (hB b hBk).2; omega
theorem SeSt.push {w8 : World} {g' n' c' : Nat} {d : Dx} (h : SeSt S W g t v ds w) (hst : RowSt KDx W.heap.size W (.slice (some ⟨g', 0, none⟩) n' c') (ds ++ [d]) w8) (hg : w.grownBy w8 v.ownBlock) (hn : v.ownBlock = some g' ∨ g' = w.heap.size) : SeSt S W g t (.slice (some ⟨g', 0, none⟩) n' c') (ds ++ [d]) w8 := by
  obtain ⟨B, h1, h2⟩ := h.ex
  refine ⟨⟨B, S.fr (P := fun k => v.ownBlock = some k) h1 (Fr.of_grown hg fun k hk => hk) h2, fun k hk e => ?_⟩, hst⟩
  have e' : g' = k := by simpa [Value.ownBlock] using e
  subst e'
  rcases hn with hn | hn
  · exact h2 g' hk hn
  · have := (S.blk h1 g' hk).2
    omega
end

theorem Try.infoDx : (Try.prog.info? 35).map (fun i => (i.zero, i.size, i.bytes)) = some (some (.agg #[.int .u64 0, .int .u64 0, .bool false, .slice none 0 0, .slice none 0 0, .slice none 0 0]), 6, 96) := by kernel_rfl

/-- What a run of tries has come to. -/
structure RunT (t : Tk) (L : Int) (i : Nat) (l : List Dn) : Prop where
  ser : SerT t l
  last : ∀ s, t.last = some s → s ≤ L
  low : 0 ≤ L ∧ L ≤ i

theorem run_skip {t : Tk} {L : Int} {i : Nat} {l : List Dn} (h : RunT t L i l) : RunT t L (i + 1) l := ⟨h.ser, h.last, h.low.1, by have := h.low.2; omega⟩
theorem run_alone {t : Tk} {L : Int} {i : Nat} {l : List Dn} (h : RunT t L i l) (m : Mk) (c : List Ch) : checkT t L m c = (false, 0) := alone_ok h.ser.ok h.last h.low.1 m c
theorem check_ok {t : Tk} {s : Int} {m : Mk} {c : List Ch} (h : (checkT t s m c).2 = 0) : clashT t s m c = false ∧ (checkT t s m c).1 = outT t.kept s m := by
  unfold checkT at h ⊢
  cases e : clashT t s m c with
  | true => rw [e] at h; cases h
  | false => exact ⟨rfl, rfl⟩
theorem check_code (t : Tk) (s : Int) (m : Mk) (c : List Ch) : (checkT t s m c).2 = 0 ∨ (checkT t s m c).2 = 11 := by
  unfold checkT
  split
  · exact Or.inr rfl
  · exact Or.inl rfl
theorem run_add {t : Tk} {L L' : Int} {i : Nat} {l : List Dn} (h : RunT t L i l) (d : Dn) (hc : (checkT t d.snap d.marks d.chg).2 = 0) (ho : d.out = (checkT t d.snap d.marks d.chg).1) (hs : d.stamp = L') (hL : L ≤ L' ∧ L' ≤ L + 1) : addT t d = (0, keepT t d) ∧ RunT (keepT t d) L' (i + 1) (l ++ [d]) := by
  obtain ⟨c1, c2⟩ := check_ok hc
  have hold : oldT t d = false := by
    unfold oldT
    cases e : t.last with
    | none => rfl
    | some s =>
      have := h.last s e
      exact decide_eq_false (by omega)
  have h1 := h.low
  refine ⟨by unfold addT; rw [hold]; rfl, ser_add h.ser d c1 (by rw [ho, c2]) hold (by omega), fun s hs2 => ?_, by omega, by omega⟩
  rw [keepT_last] at hs2
  injection hs2 with hs2
  omega

end Go.Proofs.Ytmihddbnddgfhaa

/-
  Done ones, operations and tries that came in (stage 13): what the sizes of their rows say.
-/
namespace Go.Proofs.Ytmihddbnddgfhaa
open Go.ChangeShapes Go.WideShapes Go.ChangeAt Go.RowKit Go.Lib Go.Deep Go.Joins

theorem Try.cellsYDn : Try.prog.cellsOf 35 = 6 := by kernel_rfl
theorem Try.cellsYCs : Try.prog.cellsOf 33 = 1 := by kernel_rfl
theorem Try.cellsYOp : Try.prog.cellsOf 37 = 7 := by kernel_rfl
theorem Try.bytesYOp : Try.prog.bytesOf 37 = 104 := by kernel_rfl
theorem Try.cellsYTy : Try.prog.cellsOf 57 = 4 := by kernel_rfl
theorem Try.bytesYTy : Try.prog.bytesOf 57 = 80 := by kernel_rfl
theorem Try.cellsYU8 : Try.prog.cellsOf 5 = 1 := by kernel_rfl

section
variable {H : Type} {enc : TypeId × Value → H} {W : World}

theorem u64_of {t : Int} (h : Lit.wf (.int .u64 t) = true) : 0 ≤ t ∧ t ≤ 18446744073709551615 := by
  simp [Lit.wf, IntKind.min, IntKind.max, IntKind.signed, IntKind.bits] at h
  omega
theorem u8_of {t : Int} (h : Lit.wf (.int .u8 t) = true) : 0 ≤ t ∧ t ≤ 255 := by
  simp [Lit.wf, IntKind.min, IntKind.max, IntKind.signed, IntKind.bits] at h
  omega

set_option maxRecDepth 100000 in
theorem open_termsY {fuel : Nat} {v : Value} {dd : DataW H} {p : List MemPlace}
    (hf : DataW.trod enc Try.prog W 0 (fun _ => true) true fuel 83 [v] = some (dd, p)) (hZ : ∀ n ∈ dd.weights Try.prog 83, n ≤ reachBytes) : ∃ q : List Tm, KM.Is W v q ∧ FitP q ∧ q.length ≤ 3518437208780 := by
  have hrb : reachBytes = 140737488351232 := rfl
  obtain ⟨q, h1, h2, h3, h4, h5⟩ := open_rowZ KM Try.underlying83 Try.cellsWTm Try.bytesWTm (fun t _ => t.1.size ≤ maxLen ∧ t.2.2.size ≤ maxLen ∧ -9223372036854775808 ≤ t.2.1 ∧ t.2.1 ≤ 9223372036854775807) (fun n cs x h _ => open_termW h) hf hZ
  exact ⟨q, h1, ⟨⟨h4, fun x hx => (h2 x hx).choose_spec.2⟩, by omega⟩, by omega⟩

set_option maxRecDepth 100000 in
theorem open_rgY {n : Nat} {cs : List Value} {x : DataW H × List MemPlace} (h : DataW.trod enc Try.prog W 0 (fun _ => true) true n 85 cs = some x) (hZ : ∀ n ∈ x.1.weights Try.prog 85, n ≤ reachBytes) :
    ∃ b : Rx, cs = encRx b ∧ b.at W ∧ b.tm.length ≤ 3518437208780 := by
  obtain ⟨xs, k, _, hx, hlen, hxl, hf⟩ := DataW.trod_struct Try.underlying85 h
  rw [Try.cellsMRg] at hlen
  match cs, hlen with
  | [v0, v1], _ =>
    match xs, hxl with
    | [y0, y1], _ =>
      have g0 := hf 0 _ rfl
      have g1 := hf 1 _ rfl
      simp [Try.cellsWStr, Try.cellsWTs] at g0 g1
      obtain ⟨a, ea, _, _⟩ := DataW.trod_string Try.underlying9 g0
      have hz1 : ∀ n ∈ y1.1.weights Try.prog 83, n ≤ reachBytes := fun n hn => hZ n (by
        rw [hx]
        simp only [List.map_cons, List.map_nil, DataW.weights, Try.underlying85]
        exact List.mem_append.2 (Or.inr (List.mem_append.2 (Or.inl hn))))
      obtain ⟨t, ht, hft, htl⟩ := open_termsY (dd := y1.1) (p := y1.2) g1 hz1
      simp only [List.cons.injEq, and_true] at ea
      obtain ⟨q, qc, rfl, _⟩ := id ht
      exact ⟨⟨a, q, qc, t⟩, by rw [ea]; rfl, ⟨ht, hft⟩, htl⟩

set_option maxRecDepth 100000 in
theorem open_rsY {fuel : Nat} {v : Value} {dd : DataW H} {p : List MemPlace}
    (hf : DataW.trod enc Try.prog W 0 (fun _ => true) true fuel 30 [v] = some (dd, p)) (hZ : ∀ n ∈ dd.weights Try.prog 30, n ≤ reachBytes) :
    ∃ q : List Rx, KRx.Is W v q ∧ (∀ r ∈ q, r.at W ∧ r.tm.length ≤ 3518437208780) ∧ q.length ≤ 3518437208780 := by
  have hrb : reachBytes = 140737488351232 := rfl
  obtain ⟨q, h1, h2, h3, _, h5⟩ := open_rowZ KRx Try.underlying30 Try.cellsMRg Try.bytesMRg (fun r _ => r.at W ∧ r.tm.length ≤ 3518437208780) (fun n cs x h hz => open_rgY h hz) hf hZ
  exact ⟨q, h1, fun r hr => (h2 r hr).choose_spec.2, by omega⟩

/-- What the sizes say of marks. -/
def MkIn (W : World) (m : Mx) : Prop := MIn W m ∧ (∀ k ∈ m.ks, FitKy12 k) ∧ m.ks.length ≤ 4398046510976 ∧ m.rs.length ≤ 3518437208780 ∧ ∀ r ∈ m.rs, r.tm.length ≤ 3518437208780
/-- .. and of changes. -/
def CsIn (W : World) (v : Value) (cs : List Cx) : Prop := ChgIn W v cs ∧ (∀ c ∈ cs, FitKy12 (c.a, c.b)) ∧ cs.length ≤ 1466015503658
theorem szd_of {W : World} {m : Mx} {v : Value} {cs : List Cx} (hm : MkIn W m) (hc : CsIn W v cs) : SzD m cs :=
  ⟨hm.2.2.1, hm.2.2.2.1, hm.2.2.2.2, hc.2.2, fun c h => ⟨(hc.1.each c h).wcp, (hc.1.each c h).icp⟩, hm.2.1, hc.2.1⟩

set_option maxRecDepth 100000 in
/-- Marks, from their two cells. -/
theorem open_mkY {n : Nat} {cs : List Value} {x : DataW H × List MemPlace} (h : DataW.trod enc Try.prog W 0 (fun _ => true) true n 32 cs = some x) (hZ : ∀ n ∈ x.1.weights Try.prog 32, n ≤ reachBytes) :
    ∃ m : Mx, cs = encMx m ∧ MkIn W m := by
  obtain ⟨xs, k, _, hx, hlen, hxl, hf⟩ := DataW.trod_struct Try.underlying32 h
  rw [Try.cellsMMk] at hlen
  match cs, hlen with
  | [v0, v1], _ =>
    match xs, hxl with
    | [y0, y1], _ =>
      have g0 := hf 0 _ rfl
      have g1 := hf 1 _ rfl
      simp [Try.cellsMKs, Try.cellsMRs] at g0 g1
      have hz0 : ∀ n ∈ y0.1.weights Try.prog 29, n ≤ reachBytes := fun n hn => hZ n (by
        rw [hx]
        simp only [List.map_cons, List.map_nil, DataW.weights, Try.underlying32]
        exact List.mem_append.2 (Or.inl hn))
      have hz1 : ∀ n ∈ y1.1.weights Try.prog 30, n ≤ reachBytes := fun n hn => hZ n (by
        rw [hx]
        simp only [List.map_cons, List.map_nil, DataW.weights, Try.underlying32]
        exact List.mem_append.2 (Or.inr (List.mem_append.2 (Or.inl hn))))
      obtain ⟨ks, hk1, hk2, _, hk4⟩ := open_ksM (dd := y0.1) (p := y0.2) g0 hz0
      obtain ⟨rs, hr1, hr2, hr3⟩ := open_rsY (dd := y1.1) (p := y1.2) g1 hz1
      obtain ⟨kp, kc, rfl, _⟩ := id hk1
      obtain ⟨rp, rc, rfl, _⟩ := id hr1
      exact ⟨⟨kp, kc, ks, rp, rc, rs⟩, rfl, ⟨hk1, hr1, fun r hr => (hr2 r hr).1⟩, hk2, hk4, hr3, fun r hr => (hr2 r hr).2⟩

set_option maxRecDepth 100000 in
theorem open_csY {fuel : Nat} {v : Value} {dd : DataW H} {p : List MemPlace}
    (hf : DataW.trod enc Try.prog W 0 (fun _ => true) true fuel 33 [v] = some (dd, p)) (hZ : ∀ n ∈ dd.weights Try.prog 33, n ≤ reachBytes) :
    ∃ q : List Cx, CsIn W v q := by
  have hrb : reachBytes = 140737488351232 := rfl
  obtain ⟨q, h1, h2, h3, _, h5⟩ := open_rowZ KCx Try.underlying33 Try.cellsMCh Try.bytesMCh (fun c _ => CIn W c ∧ FitKy12 (c.a, c.b)) (fun n cs x h hz => open_chM h hz) hf hZ
  exact ⟨q, ⟨h1, fun c hc => (h2 c hc).choose_spec.2.1⟩, fun c hc => (h2 c hc).choose_spec.2.2, by omega⟩

set_option maxRecDepth 100000 in
/-- One done one, from its six cells. -/
theorem open_dnY {n : Nat} {cs : List Value} {x : DataW H × List MemPlace} (h : DataW.trod enc Try.prog W 0 (fun _ => true) true n 35 cs = some x) (hZ : ∀ n ∈ x.1.weights Try.prog 35, n ≤ reachBytes) :
    ∃ d : Dx, cs = encDx d ∧ DIn W d := by
  obtain ⟨xs, k, _, hx, hlen, hxl, hf⟩ := DataW.trod_struct Try.underlying35 h
  rw [Try.cellsYDn] at hlen
  match cs, hlen with
  | [v0, v1, v2, v3, v4, v5], _ =>
    match xs, hxl with
    | [y0, y1, y2, y3, y4], _ =>
      have g0 := hf 0 _ rfl
      have g1 := hf 1 _ rfl
      have g2 := hf 2 _ rfl
      have g3 := hf 3 _ rfl
      have g4 := hf 4 _ rfl
      simp [Try.cellsWU64, Try.cellsWBool, Try.cellsMMk, Try.cellsYCs] at g0 g1 g2 g3 g4
      obtain ⟨a, ea, _, ha⟩ := DataW.trod_int Try.underlying28 g0
      obtain ⟨s, es, _, hs⟩ := DataW.trod_int Try.underlying28 g1
      obtain ⟨l, el, _⟩ := DataW.trod_bool Try.underlying4 g2
      have hz3 : ∀ n ∈ y3.1.weights Try.prog 32, n ≤ reachBytes := fun n hn => hZ n (by
        rw [hx]
        simp only [List.map_cons, List.map_nil, DataW.weights, Try.underlying35]
        exact List.mem_append.2 (Or.inr (List.mem_append.2 (Or.inr (List.mem_append.2 (Or.inr (List.mem_append.2 (Or.inl hn))))))))
      have hz4 : ∀ n ∈ y4.1.weights Try.prog 33, n ≤ reachBytes := fun n hn => hZ n (by
        rw [hx]
        simp only [List.map_cons, List.map_nil, DataW.weights, Try.underlying35]
        exact List.mem_append.2 (Or.inr (List.mem_append.2 (Or.inr (List.mem_append.2 (Or.inr (List.mem_append.2 (Or.inr (List.mem_append.2 (Or.inl hn))))))))))
      obtain ⟨m, hm, hmi⟩ := open_mkY (x := y3) g3 hz3
      obtain ⟨q, hq⟩ := open_csY (dd := y4.1) (p := y4.2) g4 hz4
      obtain ⟨cp, cc, hcv, _⟩ := id hq.1.is
      simp only [List.cons.injEq, and_true] at ea es el hm
      refine ⟨⟨a, s, l, m, cp, cc, q⟩, ?_, ⟨hmi.1, ?_, szd_of hmi hq, u64_of ha, u64_of hs⟩⟩
      · rw [ea, es, el, hcv]
        simp only [encMx, List.cons.injEq, and_true] at hm
        rw [hm.1, hm.2]
        rfl
      · have := hq.1
        rw [hcv] at this
        exact this

set_option maxRecDepth 100000 in
theorem open_doneY {b0 : Nat} {v : Value} {dd : DataW H} {p : List MemPlace} (hv : Value.okWide Try.prog W .any b0 35 v) (h : DataW.Trod enc Try.prog W 0 (fun _ => true) true 35 v dd p) (hZ : ∀ n ∈ dd.weights Try.prog 35, n ≤ reachBytes) :
    ∃ d : Dx, v = .agg (encDx d).toArray ∧ DIn W d := by
  obtain ⟨cs, rfl, hsz⟩ := okWide_struct Try.underlying35 hv
  obtain ⟨fuel, hf0⟩ := h
  obtain ⟨d, hd, hin⟩ := open_dnY (x := (dd, p)) (cs := cs.toList) (by simpa [Value.cells] using hf0) hZ
  exact ⟨d, by rw [show cs = (encDx d).toArray from Array.ext' (by rw [hd])], hin⟩

set_option maxRecDepth 100000 in
/-- One operation, from its seven cells. -/
theorem open_otY {n : Nat} {cs : List Value} {x : DataW H × List MemPlace} (h : DataW.trod enc Try.prog W 0 (fun _ => true) true n 37 cs = some x) (hZ : ∀ n ∈ x.1.weights Try.prog 37, n ≤ reachBytes) :
    ∃ o : Oy13, cs = encOt o ∧ DIn W o.d := by
  obtain ⟨xs, k, _, hx, hlen, hxl, hf⟩ := DataW.trod_struct Try.underlying37 h
  rw [Try.cellsYOp] at hlen
  match cs, hlen with
  | [v0, v1, v2, v3, v4, v5, v6], _ =>
    match xs, hxl with
    | [y0, y1], _ =>
      have g0 := hf 0 _ rfl
      have g1 := hf 1 _ rfl
      simp [Try.cellsWInt, Try.cellsYDn] at g0 g1
      obtain ⟨a, ea, _, _⟩ := DataW.trod_int Try.underlying3 g0
      have hz1 : ∀ n ∈ y1.1.weights Try.prog 35, n ≤ reachBytes := fun n hn => hZ n (by
        rw [hx]
        simp only [List.map_cons, List.map_nil, DataW.weights, Try.underlying37]
        exact List.mem_append.2 (Or.inr (List.mem_append.2 (Or.inl hn))))
      obtain ⟨d, hd, hdi⟩ := open_dnY (x := y1) g1 hz1
      simp only [List.cons.injEq, and_true] at ea
      refine ⟨⟨a, d⟩, ?_, hdi⟩
      rw [ea]
      exact congrArg (List.cons _) hd

set_option maxRecDepth 100000 in
theorem open_opsY13 {b0 : Nat} {v : Value} {dd : DataW H} {p : List MemPlace} (hv : Value.okWide Try.prog W .any b0 22 v) (h : DataW.Trod enc Try.prog W 0 (fun _ => true) true 22 v dd p) (hZ : ∀ n ∈ dd.weights Try.prog 22, n ≤ reachBytes) :
    ∃ ops : List Oy13, KOt.Is W v ops ∧ (∀ x ∈ ops, DIn W x.d) ∧ ops.length ≤ 1353245080300 := by
  have hrb : reachBytes = 140737488351232 := rfl
  obtain ⟨a0, len, cap, rfl⟩ := okWide_slice Try.underlying22 hv
  obtain ⟨fuel, hf⟩ := h
  obtain ⟨q, h1, h2, h3, _, _⟩ := open_rowZ KOt Try.underlying22 Try.cellsYOp Try.bytesYOp (fun b _ => DIn W b.d) (fun n cs x h hz => open_otY h hz) (dd := dd) (p := p) (by simpa [Value.cells] using hf) hZ
  exact ⟨q, h1, fun f hf => (h2 f hf).choose_spec.2, by omega⟩

set_option maxRecDepth 100000 in
/-- One try, from its four cells. -/
theorem open_tyY {n : Nat} {cs : List Value} {x : DataW H × List MemPlace} (h : DataW.trod enc Try.prog W 0 (fun _ => true) true n 57 cs = some x) (hZ : ∀ n ∈ x.1.weights Try.prog 57, n ≤ reachBytes) :
    ∃ o : Ty13, cs = encTy o ∧ TIn W o := by
  obtain ⟨xs, k, _, hx, hlen, hxl, hf⟩ := DataW.trod_struct Try.underlying57 h
  rw [Try.cellsYTy] at hlen
  match cs, hlen with
  | [v0, v1, v2, v3], _ =>
    match xs, hxl with
    | [y0, y1, y2], _ =>
      have g0 := hf 0 _ rfl
      have g1 := hf 1 _ rfl
      have g2 := hf 2 _ rfl
      simp [Try.cellsYU8, Try.cellsMMk, Try.cellsYCs] at g0 g1 g2
      obtain ⟨a, ea, _, ha⟩ := DataW.trod_int Try.underlying5 g0
      have hz1 : ∀ n ∈ y1.1.weights Try.prog 32, n ≤ reachBytes := fun n hn => hZ n (by
        rw [hx]
        simp only [List.map_cons, List.map_nil, DataW.weights, Try.underlying57]
        exact List.mem_append.2 (Or.inr (List.mem_append.2 (Or.inl hn))))
      have hz2 : ∀ n ∈ y2.1.weights Try.prog 33, n ≤ reachBytes := fun n hn => hZ n (by
        rw [hx]
        simp only [List.map_cons, List.map_nil, DataW.weights, Try.underlying57]
        exact List.mem_append.2 (Or.inr (List.mem_append.2 (Or.inr (List.mem_append.2 (Or.inl hn))))))
      obtain ⟨m, hm, hmi⟩ := open_mkY (x := y1) g1 hz1
      obtain ⟨q, hq⟩ := open_csY (dd := y2.1) (p := y2.2) g2 hz2
      obtain ⟨cp, cc, hcv, _⟩ := id hq.1.is
      simp only [List.cons.injEq, and_true] at ea hm
      refine ⟨⟨a, m, cp, cc, q⟩, ?_, ⟨hmi.1, ?_, szd_of hmi hq, u8_of ha⟩⟩
      · rw [ea, hcv]
        simp only [encMx, List.cons.injEq, and_true] at hm
        rw [hm.1, hm.2]
        rfl
      · have := hq.1
        rw [hcv] at this
        exact this

set_option maxRecDepth 100000 in
theorem open_triesY {b0 : Nat} {v : Value} {dd : DataW H} {p : List MemPlace} (hv : Value.okWide Try.prog W .any b0 55 v) (h : DataW.Trod enc Try.prog W 0 (fun _ => true) true 55 v dd p) (hZ : ∀ n ∈ dd.weights Try.prog 55, n ≤ reachBytes) :
    ∃ ts : List Ty13, KTy.Is W v ts ∧ (∀ x ∈ ts, TIn W x) ∧ ts.length ≤ 9000000000000000000 := by
  have hrb : reachBytes = 140737488351232 := rfl
  obtain ⟨a0, len, cap, rfl⟩ := okWide_slice Try.underlying55 hv
  obtain ⟨fuel, hf⟩ := h
  obtain ⟨q, h1, h2, h3, _, _⟩ := open_rowZ KTy Try.underlying55 Try.cellsYTy Try.bytesYTy (fun b _ => TIn W b) (fun n cs x h hz => open_tyY h hz) (dd := dd) (p := p) (by simpa [Value.cells] using hf) hZ
  exact ⟨q, h1, fun f hf => (h2 f hf).choose_spec.2, by omega⟩
end

end Go.Proofs.Ytmihddbnddgfhaa
