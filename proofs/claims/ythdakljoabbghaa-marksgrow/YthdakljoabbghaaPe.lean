/-
  Texts of this claim, one behind the other: Cob Coz Cfm Cv0 Dfd Fdi Ozw Mob.
-/
import Derived.Test.YthdakljoabbghaaPd
import Derived.Test.YthdakljoabbghaaRows
import Derived.Test.YthdakljoabbghaaPa
import Derived.MakeChecks
import Derived.ProofKit
import Derived.OpenShut
import Derived.Lay
import Derived.Stop.Joined
import Derived.SliceStrings
import Derived.Deep.SlicePairs
import Derived.Lib.LaidU8
import Derived.SizedLaws
import Derived.ChangeSlices
import Derived.JoinedCond
import Derived.Lib.SmallJoins
import Derived.ShutString
import Derived.Below
import Derived.Deep.DeepHandedRow
import Derived.Deep.RegionHeld3
import Derived.Deep.CutRange
import Derived.Deep.LoopGhost
import Derived.Test.YthdakljoabbghaaPb
import Derived.Test.YthdakljoabbghaaPc
/-
  What each row's proof opens its arguments by: fields, and their bulk.
-/
namespace Go.Proofs.Ythdakljoabbghaa
open Go.ChangeShapes Go.WideShapes Go.ChangeAt Go.RowKit Go.Lib Go.Deep Go.Joins


theorem Try.own : ownKnob Try.prog.godebug = none := by kernel_rfl

theorem Try.laidOut : laidOutB Try.prog = true := by kernel_rfl

theorem Try.cellsFld : Try.prog.cellsOf 64 = 2 := by kernel_rfl

theorem Try.cellsStr : Try.prog.cellsOf 9 = 1 := by kernel_rfl

theorem Try.cellsStrs : Try.prog.cellsOf 62 = 1 := by kernel_rfl

/-- A slice of texts that came in. -/
theorem open_txt {H : Type} {enc : TypeId × Value → H} {W : World} {f : Nat} {v : Value} {x : DataW H × List MemPlace} (h : DataW.trod enc Try.prog W 0 (fun _ => true) true f 62 [v] = some x) :
    ∃ p cap, ∃ ts : List ByteArray, v = .slice p ts.length cap ∧ TxtAt W p ts ∧ FitT ts := by
  rcases open_strings Try.underlying62 Try.underlying9 Try.cellsStr h with ⟨hcs, _⟩ | ⟨a, l, c, ss, hcs, _, hl, hm, hz, _, hcell, hws⟩
  · simp at hcs
    exact ⟨none, 0, [], hcs, Or.inl rfl, by unfold maxLen; simp, fun t ht => by simp at ht⟩
  · simp at hcs
    have hz' : ss.length = c := by simpa using hz
    have hlen : (ss.take l).length = l := by rw [List.length_take]; omega
    refine ⟨some a, c, ss.take l, by rw [hlen]; exact hcs, ?_, by omega, fun t ht => hws t (List.mem_of_mem_take ht)⟩
    by_cases h0 : l = 0
    · subst h0; exact Or.inl rfl
    · right
      have hc0 := hcell 0 (by omega)
      obtain ⟨b, off, spot⟩ := a
      have hspot : spot = none := by simpa [Addr.add] using World.cell?_spot hc0
      subst hspot
      refine ⟨b, off, rfl, fun i hi => ?_⟩
      rw [hlen] at hi
      have := hcell i (by omega)
      rw [addr_add] at this
      rw [this, List.getElem_take, List.getD_eq_getElem?_getD, List.getElem?_eq_getElem (by omega)]
      rfl

set_option maxRecDepth 100000 in
/-- A slice of fields that came in. -/
theorem open_fields {H : Type} {enc : TypeId × Value → H} {W : World} {b0 : Nat} {v : Value} {dd : DataW H} {p : List MemPlace}
    (hv : Value.okWide Try.prog W .any b0 41 v) (h : DataW.Trod enc Try.prog W 0 (fun _ => true) true 41 v dd p) : ∃ d : List Fx, IsXs W v d ∧ FitX d := by
  obtain ⟨a0, len, cap, rfl⟩ := okWide_slice Try.underlying41 hv
  obtain ⟨fuel, hf⟩ := h
  rcases open_slice_pairs Try.underlying41 Try.underlying64 Try.cellsFld rfl rfl Try.cellsStr Try.cellsStrs hf with ⟨hcs, _⟩ | ⟨a, l, c, m, n, V0, V1, D0, D1, P0, P1, hcs, _, hl, hm, hmm, hdat, hall⟩
  · simp [Value.cells] at hcs
    obtain ⟨rfl, rfl, rfl⟩ := hcs
    exact ⟨[], ⟨none, 0, rfl, Or.inl rfl, fun x hx => by simp at hx⟩, by unfold maxLen; simp, fun x hx => by simp at hx⟩
  · simp [Value.cells] at hcs
    obtain ⟨rfl, rfl, rfl⟩ := hcs
    have hm' : m = cap := by simpa using hmm
    subst hm'
    have each : ∀ i, i < m → ∃ x : Fx, V0 i = .string x.name ∧ V1 i = x.sl ∧ TxtAt W x.p x.txt ∧ FitF x.fld := by
      intro i hi
      obtain ⟨_, _, h3, h4⟩ := hall i hi
      obtain ⟨s, e0, _, hs⟩ := DataW.trod_string Try.underlying9 h3
      simp only [List.cons.injEq, and_true] at e0
      obtain ⟨q, cc, ts, e1, ht, hft⟩ := open_txt h4
      exact ⟨⟨s, q, cc, ts⟩, e0, e1, ht, hs, hft⟩
    by_cases h0 : len = 0
    · subst h0
      exact ⟨[], ⟨_, _, rfl, Or.inl rfl, fun x hx => by simp at hx⟩, by unfold maxLen; simp, fun x hx => by simp at hx⟩
    · have hc0 := (hall 0 (by omega)).1
      obtain ⟨b, off, spot⟩ := a
      have hspot : spot = none := by simpa [Addr.add] using World.cell?_spot hc0
      subst hspot
      let f : Nat → Fx := fun i => if h : i < m then (each i h).choose else default
      have fs : ∀ i (h : i < m), V0 i = .string (f i).name ∧ V1 i = (f i).sl ∧ TxtAt W (f i).p (f i).txt ∧ FitF (f i).fld := fun i h => by
        have e : f i = (each i h).choose := dif_pos h
        rw [e]
        exact (each i h).choose_spec
      have hlen : ((List.range len).map f).length = len := by simp
      refine ⟨(List.range len).map f, ⟨_, m, by rw [hlen], Or.inr ⟨b, off, rfl, fun i hi => ?_⟩, fun x hx => ?_⟩, by rw [hlen]; omega, fun x hx => ?_⟩
      · have hi0 : i < len := by simpa using hi
        obtain ⟨h1, h2, _, _⟩ := hall i (by omega)
        obtain ⟨g1, g2, _⟩ := fs i (by omega)
        rw [addr_add] at h1 h2
        have ef : ((List.range len).map f)[i]'hi = f i := by simp
        rw [ef, h1, ← g1]
        refine ⟨rfl, ?_⟩
        rw [Nat.add_assoc, h2, g2]
      · obtain ⟨i, hi, rfl⟩ := List.mem_map.1 hx
        exact (fs i (by have := List.mem_range.1 hi; omega)).2.2.1
      · obtain ⟨i, hi, rfl⟩ := List.mem_map.1 hx
        exact (fs i (by have := List.mem_range.1 hi; omega)).2.2.2

theorem bulk_pos {H : Type} (d : DataW H) : 1 ≤ Rows.uptoBulk d := by
  cases d with
  | lit l => cases l <;> simp [Rows.uptoBulk]
  | nil => simp [Rows.uptoBulk]
  | ptr d => simp [Rows.uptoBulk]
  | slice elems spare => simp [Rows.uptoBulk]
  | agg parts => simp [Rows.uptoBulk]
  | iface t d => simp [Rows.uptoBulk]
  | map entries => simp [Rows.uptoBulk]
  | held h => simp [Rows.uptoBulk]

theorem bulk_sum {H : Type} (l : List (DataW H)) : Rows.uptoBulkAll l = (l.map Rows.uptoBulk).sum := by
  induction l with
  | nil => simp [Rows.uptoBulkAll]
  | cons x r ih => simp [Rows.uptoBulkAll, ih]

theorem bulk_mem {H : Type} {d : DataW H} {l : List (DataW H)} (h : d ∈ l) : Rows.uptoBulk d ≤ Rows.uptoBulkAll l := by
  induction l with
  | nil => cases h
  | cons x r ih =>
    simp only [Rows.uptoBulkAll]
    rcases List.mem_cons.1 h with rfl | h
    · omega
    · have := ih h; omega

theorem bulk_len {H : Type} (l : List (DataW H)) : l.length ≤ Rows.uptoBulkAll l := by
  induction l with
  | nil => simp [Rows.uptoBulkAll]
  | cons x r ih => have := bulk_pos x; simp only [Rows.uptoBulkAll, List.length_cons]; omega

theorem bulk_small {H : Type} {l : List (DataW H)} (hk : Rows.uptoSmall H l = true) : Rows.uptoBulkAll l ≤ 1048576 := of_decide_eq_true hk

/-- A slice of texts that came in, and its bulk. -/
theorem open_txtU {H : Type} {enc : TypeId × Value → H} {W : World} {f : Nat} {v : Value} {x : DataW H × List MemPlace} (h : DataW.trod enc Try.prog W 0 (fun _ => true) true f 62 [v] = some x) :
    ∃ p cap, ∃ ts : List ByteArray, v = .slice p ts.length cap ∧ TxtAt W p ts ∧ FitT ts ∧ ts.length + 1 ≤ Rows.uptoBulk x.1 ∧ ∀ t ∈ ts, t.size ≤ Rows.uptoBulk x.1 := by
  rcases open_strings Try.underlying62 Try.underlying9 Try.cellsStr h with ⟨hcs, hx⟩ | ⟨a, l, c, ss, hcs, _, hl, hm, hz, hx, hcell, hws⟩
  · simp at hcs
    exact ⟨none, 0, [], hcs, Or.inl rfl, ⟨by unfold maxLen; simp, fun t ht => by simp at ht⟩, by rw [hx]; simp [Rows.uptoBulk], fun t ht => by simp at ht⟩
  · simp at hcs
    have hz' : ss.length = c := by simpa using hz
    have hlen : (ss.take l).length = l := by rw [List.length_take]; omega
    have hb1 := bulk_len (strs (ss.take l) : List (DataW H))
    have hb2 : (strs (ss.take l) : List (DataW H)).length = l := by rw [show (strs (ss.take l) : List (DataW H)).length = (ss.take l).length by simp [strs], hlen]
    refine ⟨some a, c, ss.take l, by rw [hlen]; exact hcs, ?_, ⟨by omega, fun t ht => hws t (List.mem_of_mem_take ht)⟩, ?_, fun t ht => ?_⟩
    · by_cases h0 : l = 0
      · subst h0; exact Or.inl rfl
      · right
        have hc0 := hcell 0 (by omega)
        obtain ⟨b, off, spot⟩ := a
        have hspot : spot = none := by simpa [Addr.add] using World.cell?_spot hc0
        subst hspot
        refine ⟨b, off, rfl, fun i hi => ?_⟩
        rw [hlen] at hi
        have := hcell i (by omega)
        rw [addr_add] at this
        rw [this, List.getElem_take, List.getD_eq_getElem?_getD, List.getElem?_eq_getElem (by omega)]
        rfl
    · rw [hx, hlen]
      simp only [Rows.uptoBulk]
      omega
    · rw [hx]
      simp only [Rows.uptoBulk]
      have hm' : (DataW.lit (.string t.data.toList) : DataW H) ∈ strs (ss.take l) := by
        unfold strs
        exact List.mem_map.2 ⟨t, ht, rfl⟩
      have := bulk_mem hm'
      simp only [Rows.uptoBulk] at this
      have e : t.data.toList.length = t.size := by simp
      omega

theorem sum_le_of {α : Type} (l : List α) (f g : α → Nat) (h : ∀ i ∈ l, f i ≤ g i) : (l.map f).sum ≤ (l.map g).sum := by
  induction l with
  | nil => simp
  | cons a l ih =>
    have h1 := h a (by simp)
    have h2 := ih fun i hi => h i (by simp [hi])
    simp only [List.map_cons, List.sum_cons]
    omega

theorem sum_add_of {α : Type} (l : List α) (f : α → Nat) : (l.map fun i => 1 + f i).sum = l.length + (l.map f).sum := by
  induction l with
  | nil => simp
  | cons a l ih => simp only [List.map_cons, List.sum_cons, List.length_cons, ih]; omega

set_option maxRecDepth 100000 in
theorem open_fieldsU {H : Type} {enc : TypeId × Value → H} {W : World} {b0 : Nat} {v : Value} {dd : DataW H} {p : List MemPlace}
    (hv : Value.okWide Try.prog W .any b0 41 v) (h : DataW.Trod enc Try.prog W 0 (fun _ => true) true 41 v dd p) : ∃ d : List Fx, IsXs W v d ∧ FitX d ∧ d.length + totF (d.map Fx.fld) ≤ Rows.uptoBulk dd := by
  obtain ⟨a0, len, cap, rfl⟩ := okWide_slice Try.underlying41 hv
  obtain ⟨fuel, hf⟩ := h
  rcases open_slice_pairs Try.underlying41 Try.underlying64 Try.cellsFld rfl rfl Try.cellsStr Try.cellsStrs hf with ⟨hcs, _⟩ | ⟨a, l, c, m, n, V0, V1, D0, D1, P0, P1, hcs, _, hl, hm, hmm, hdat, hall⟩
  · simp [Value.cells] at hcs
    obtain ⟨rfl, rfl, rfl⟩ := hcs
    exact ⟨[], ⟨none, 0, rfl, Or.inl rfl, fun x hx => by simp at hx⟩, ⟨by unfold maxLen; simp, fun x hx => by simp at hx⟩, by simp [totF]⟩
  · simp [Value.cells] at hcs
    obtain ⟨rfl, rfl, rfl⟩ := hcs
    have hm' : m = cap := by simpa using hmm
    subst hm'
    have each : ∀ i, i < m → ∃ x : Fx, V0 i = .string x.name ∧ V1 i = x.sl ∧ TxtAt W x.p x.txt ∧ FitF x.fld ∧ x.txt.length + 1 ≤ Rows.uptoBulk (D1 i) := by
      intro i hi
      obtain ⟨_, _, h3, h4⟩ := hall i hi
      obtain ⟨s, e0, _, hs⟩ := DataW.trod_string Try.underlying9 h3
      simp only [List.cons.injEq, and_true] at e0
      obtain ⟨q, cc, ts, e1, ht, hft, hbk, _⟩ := open_txtU h4
      exact ⟨⟨s, q, cc, ts⟩, e0, e1, ht, ⟨hs, hft⟩, hbk⟩
    have hdd : dd = .slice ((List.range len).map fun i => .agg [D0 i, D1 i]) ((List.range (m - len)).map fun j => .agg [D0 (len + j), D1 (len + j)]) := congrArg Prod.fst hdat
    have hbulk : ((List.range len).map fun i => Rows.uptoBulk (D1 i)).sum ≤ Rows.uptoBulk dd := by
      rw [hdd]
      simp only [Rows.uptoBulk, bulk_sum, List.map_map]
      refine Nat.le_trans (sum_le_of (List.range len) _ (Rows.uptoBulk ∘ fun i => DataW.agg [D0 i, D1 i]) fun i _ => ?_) (by omega)
      simp only [Function.comp, Rows.uptoBulk, Rows.uptoBulkAll]
      omega
    by_cases h0 : len = 0
    · subst h0
      exact ⟨[], ⟨_, _, rfl, Or.inl rfl, fun x hx => by simp at hx⟩, ⟨by unfold maxLen; simp, fun x hx => by simp at hx⟩, by simp [totF]⟩
    · have hc0 := (hall 0 (by omega)).1
      obtain ⟨b, off, spot⟩ := a
      have hspot : spot = none := by simpa [Addr.add] using World.cell?_spot hc0
      subst hspot
      let f : Nat → Fx := fun i => if h : i < m then (each i h).choose else default
      have fs : ∀ i (h : i < m), V0 i = .string (f i).name ∧ V1 i = (f i).sl ∧ TxtAt W (f i).p (f i).txt ∧ FitF (f i).fld ∧ (f i).txt.length + 1 ≤ Rows.uptoBulk (D1 i) := fun i h => by
        have e : f i = (each i h).choose := dif_pos h
        rw [e]
        exact (each i h).choose_spec
      have hlen : ((List.range len).map f).length = len := by simp
      refine ⟨(List.range len).map f, ⟨_, m, by rw [hlen], Or.inr ⟨b, off, rfl, fun i hi => ?_⟩, fun x hx => ?_⟩, ⟨by rw [hlen]; omega, fun x hx => ?_⟩, ?_⟩
      · have hi0 : i < len := by simpa using hi
        obtain ⟨h1, h2, _, _⟩ := hall i (by omega)
        obtain ⟨g1, g2, _⟩ := fs i (by omega)
        rw [addr_add] at h1 h2
        have ef : ((List.range len).map f)[i]'hi = f i := by simp
        rw [ef, h1, ← g1]
        refine ⟨rfl, ?_⟩
        rw [Nat.add_assoc, h2, g2]
      · obtain ⟨i, hi, rfl⟩ := List.mem_map.1 hx
        exact (fs i (by have := List.mem_range.1 hi; omega)).2.2.1
      · obtain ⟨i, hi, rfl⟩ := List.mem_map.1 hx
        exact (fs i (by have := List.mem_range.1 hi; omega)).2.2.2.1
      · refine Nat.le_trans ?_ hbulk
        have e1 : totF (((List.range len).map f).map Fx.fld) = ((List.range len).map fun i => (f i).txt.length).sum := by
          unfold totF
          rw [List.map_map, List.map_map]
          rfl
        have e2 := sum_add_of (List.range len) fun i => (f i).txt.length
        rw [e1, hlen]
        rw [List.length_range] at e2
        rw [← e2]
        refine sum_le_of _ _ _ fun i hi => ?_
        have := (fs i (by have := List.mem_range.1 hi; omega)).2.2.2.2
        omega

theorem copy_of (d : List Fx) (h : d.length + totF (d.map Fx.fld) ≤ 1048576) : CopyX d :=
  ⟨by omega, fun x hx => by
    have := totF_mem (List.mem_map.2 ⟨x, hx, rfl⟩ : x.fld ∈ d.map Fx.fld)
    have e : x.fld.2.length = x.txt.length := rfl
    omega⟩

end Go.Proofs.Ythdakljoabbghaa

/-
  A slice of fields that came in, and what the sizes of its rows say (in an argument, or inside one).
-/
namespace Go.Proofs.Ythdakljoabbghaa
open Go.ChangeShapes Go.WideShapes Go.ChangeAt Go.RowKit Go.Lib Go.Deep Go.Joins

theorem Try.bytesStr : Try.prog.bytesOf 9 = 16 := by kernel_rfl
theorem Try.bytesFld : Try.prog.bytesOf 64 = 40 := by kernel_rfl

theorem weights_all {H : Type} {P : Program} {e : TypeId} {d : DataW H} {n : Nat} (hn : n ∈ d.weights P e) : ∀ {l : List (DataW H)}, d ∈ l → n ∈ DataW.weightsAll P e l
  | x :: r, h => by
    simp only [DataW.weightsAll, List.mem_append]
    rcases List.mem_cons.1 h with rfl | h
    · exact Or.inl hn
    · exact Or.inr (weights_all hn h)

/-- A slice of texts that came in, and its row's size. -/
theorem open_txtZ {H : Type} {enc : TypeId × Value → H} {W : World} {f : Nat} {v : Value} {x : DataW H × List MemPlace} (h : DataW.trod enc Try.prog W 0 (fun _ => true) true f 62 [v] = some x) :
    ∃ p cap, ∃ ts : List ByteArray, v = .slice p ts.length cap ∧ TxtAt W p ts ∧ FitT ts ∧ (ts.length = 0 ∨ ∃ n ∈ x.1.weights Try.prog 62, ts.length * 16 ≤ n) := by
  rcases open_strings Try.underlying62 Try.underlying9 Try.cellsStr h with ⟨hcs, hx⟩ | ⟨a, l, c, ss, hcs, _, hl, hm, hz, hx, hcell, hws⟩
  · simp at hcs
    exact ⟨none, 0, [], hcs, Or.inl rfl, ⟨by unfold maxLen; simp, fun t ht => by simp at ht⟩, Or.inl rfl⟩
  · simp at hcs
    have hz' : ss.length = c := by simpa using hz
    have hlen : (ss.take l).length = l := by rw [List.length_take]; omega
    refine ⟨some a, c, ss.take l, by rw [hlen]; exact hcs, ?_, ⟨by omega, fun t ht => hws t (List.mem_of_mem_take ht)⟩, Or.inr ?_⟩
    · by_cases h0 : l = 0
      · subst h0; exact Or.inl rfl
      · right
        have hc0 := hcell 0 (by omega)
        obtain ⟨b, off, spot⟩ := a
        have hspot : spot = none := by simpa [Addr.add] using World.cell?_spot hc0
        subst hspot
        refine ⟨b, off, rfl, fun i hi => ?_⟩
        rw [hlen] at hi
        have := hcell i (by omega)
        rw [addr_add] at this
        rw [this, List.getElem_take, List.getD_eq_getElem?_getD, List.getElem?_eq_getElem (by omega)]
        rfl
    · rw [hx, hlen]
      simp only [DataW.weights, Try.underlying62]
      refine ⟨_, List.mem_cons_self, ?_⟩
      rw [Try.bytesStr]
      have hb2 : (strs (ss.take l) : List (DataW H)).length = l := by rw [show (strs (ss.take l) : List (DataW H)).length = (ss.take l).length by simp [strs], hlen]
      rw [hb2]
      exact Nat.mul_le_mul_right 16 (by omega)

set_option maxRecDepth 100000 in
theorem open_fldsZ {H : Type} {enc : TypeId × Value → H} {W : World} {fuel : Nat} {v : Value} {dd : DataW H} {p : List MemPlace}
    (hf : DataW.trod enc Try.prog W 0 (fun _ => true) true fuel 41 [v] = some (dd, p)) (hZ : ∀ n ∈ dd.weights Try.prog 41, n ≤ reachBytes) : ∃ d : List Fx, IsXs W v d ∧ FitX d ∧ CopyX d := by
  have hrb := reachBytes_lt
  rcases open_slice_pairs Try.underlying41 Try.underlying64 Try.cellsFld rfl rfl Try.cellsStr Try.cellsStrs hf with ⟨hcs, _⟩ | ⟨a, len, cap, m, n, V0, V1, D0, D1, P0, P1, hcs, _, hl, hm, hmm, hdat, hall⟩
  · simp at hcs
    subst hcs
    exact ⟨[], ⟨none, 0, rfl, Or.inl rfl, fun x hx => by simp at hx⟩, ⟨by unfold maxLen; simp, fun x hx => by simp at hx⟩, by simp, fun x hx => by simp at hx⟩
  · simp at hcs
    subst hcs
    have hm' : m = cap := by simpa using hmm
    subst hm'
    have each : ∀ i, i < m → ∃ x : Fx, V0 i = .string x.name ∧ V1 i = x.sl ∧ TxtAt W x.p x.txt ∧ FitF x.fld ∧ (x.txt.length = 0 ∨ ∃ n ∈ (D1 i).weights Try.prog 62, x.txt.length * 16 ≤ n) := by
      intro i hi
      obtain ⟨_, _, h3, h4⟩ := hall i hi
      obtain ⟨s, e0, _, hs⟩ := DataW.trod_string Try.underlying9 h3
      simp only [List.cons.injEq, and_true] at e0
      obtain ⟨q, cc, ts, e1, ht, hft, hbk⟩ := open_txtZ h4
      exact ⟨⟨s, q, cc, ts⟩, e0, e1, ht, ⟨hs, hft⟩, hbk⟩
    have hdd : dd = .slice ((List.range len).map fun i => .agg [D0 i, D1 i]) ((List.range (m - len)).map fun j => .agg [D0 (len + j), D1 (len + j)]) := congrArg Prod.fst hdat
    have hwl : len * 40 ≤ reachBytes := by
      have := hZ ((((List.range len).map fun i => DataW.agg [D0 i, D1 i]).length + ((List.range (m - len)).map fun j => DataW.agg [D0 (len + j), D1 (len + j)]).length) * Try.prog.bytesOf 64) (by
        rw [hdd]
        simp only [DataW.weights, Try.underlying41]
        exact List.mem_cons_self)
      rw [Try.bytesFld] at this
      simp only [List.length_map, List.length_range] at this
      omega
    have hwi : ∀ i, i < len → ∀ n ∈ (D1 i).weights Try.prog 62, n ≤ reachBytes := fun i hi n hn => by
      refine hZ n ?_
      rw [hdd]
      simp only [DataW.weights, Try.underlying41]
      refine List.mem_cons_of_mem _ (List.mem_append.2 (Or.inl (weights_all (d := .agg [D0 i, D1 i]) ?_ (List.mem_map.2 ⟨i, List.mem_range.2 hi, rfl⟩))))
      simp only [DataW.weights, Try.underlying64]
      exact List.mem_append.2 (Or.inr (List.mem_append.2 (Or.inl hn)))
    by_cases h0 : len = 0
    · subst h0
      exact ⟨[], ⟨_, _, rfl, Or.inl rfl, fun x hx => by simp at hx⟩, ⟨by unfold maxLen; simp, fun x hx => by simp at hx⟩, by simp, fun x hx => by simp at hx⟩
    · have hc0 := (hall 0 (by omega)).1
      obtain ⟨b, off, spot⟩ := a
      have hspot : spot = none := by simpa [Addr.add] using World.cell?_spot hc0
      subst hspot
      let f : Nat → Fx := fun i => if h : i < m then (each i h).choose else default
      have fs : ∀ i (h : i < m), V0 i = .string (f i).name ∧ V1 i = (f i).sl ∧ TxtAt W (f i).p (f i).txt ∧ FitF (f i).fld ∧ ((f i).txt.length = 0 ∨ ∃ n ∈ (D1 i).weights Try.prog 62, (f i).txt.length * 16 ≤ n) := fun i h => by
        have e : f i = (each i h).choose := dif_pos h
        rw [e]
        exact (each i h).choose_spec
      have hlen : ((List.range len).map f).length = len := by simp
      refine ⟨(List.range len).map f, ⟨_, m, by rw [hlen], Or.inr ⟨b, off, rfl, fun i hi => ?_⟩, fun x hx => ?_⟩, ⟨by rw [hlen]; omega, fun x hx => ?_⟩, by rw [hlen]; omega, fun x hx => ?_⟩
      · have hi0 : i < len := by simpa using hi
        obtain ⟨h1, h2, _, _⟩ := hall i (by omega)
        obtain ⟨g1, g2, _⟩ := fs i (by omega)
        rw [addr_add] at h1 h2
        have ef : ((List.range len).map f)[i]'hi = f i := by simp
        rw [ef, h1, ← g1]
        refine ⟨rfl, ?_⟩
        rw [Nat.add_assoc, h2, g2]
      · obtain ⟨i, hi, rfl⟩ := List.mem_map.1 hx
        exact (fs i (by have := List.mem_range.1 hi; omega)).2.2.1
      · obtain ⟨i, hi, rfl⟩ := List.mem_map.1 hx
        exact (fs i (by have := List.mem_range.1 hi; omega)).2.2.2.1
      · obtain ⟨i, hi, rfl⟩ := List.mem_map.1 hx
        have hil := List.mem_range.1 hi
        rcases (fs i (by omega)).2.2.2.2 with h | ⟨n, hn, h⟩
        · omega
        · have := hwi i hil n hn
          omega

set_option maxRecDepth 100000 in
theorem open_fieldsZ {H : Type} {enc : TypeId × Value → H} {W : World} {b0 : Nat} {v : Value} {dd : DataW H} {p : List MemPlace}
    (hv : Value.okWide Try.prog W .any b0 41 v) (h : DataW.Trod enc Try.prog W 0 (fun _ => true) true 41 v dd p) (hZ : ∀ n ∈ dd.weights Try.prog 41, n ≤ reachBytes) : ∃ d : List Fx, IsXs W v d ∧ FitX d ∧ CopyX d := by
  obtain ⟨a0, len, cap, rfl⟩ := okWide_slice Try.underlying41 hv
  obtain ⟨fuel, hf⟩ := h
  exact open_fldsZ (by simpa [Value.cells] using hf) hZ

end Go.Proofs.Ythdakljoabbghaa

/-
  Chains (stage 6), without the program: versions whose stamps rise; what is visible at a stamp, since a stamp, and what a prune leaves.
-/
namespace Go.Proofs.Ythdakljoabbghaa

structure Vr where
  num : Int
  stamp : Int
  tick : Int
  live : Bool
  val : List (ByteArray × List ByteArray)
  deriving Inhabited, DecidableEq

/-- The version that there is none: what Go's zero value is. -/
def zeroV : Vr := ⟨0, 0, 0, false, []⟩

/-- How many stand at or below t, from the first on. -/
def cutV (l : List Vr) (t : Int) : Nat := (l.takeWhile fun v => decide (v.stamp ≤ t)).length
def atV (l : List Vr) (t : Int) : Option Vr := if cutV l t = 0 then none else l[cutV l t - 1]?
def sinceV (l : List Vr) (t : Int) : List Vr := l.drop (cutV l t)
def pruneN (l : List Vr) (f : Int) : Nat := cutV l f - 1
def pruneV (l : List Vr) (f : Int) : List Vr := l.drop (pruneN l f)

def RiseV (l : List Vr) : Prop := l.Pairwise fun a b => a.stamp < b.stamp

/-- What holds of every chain. -/
structure OkV (l : List Vr) : Prop where
  rise : RiseV l
  nums : ∀ i, (h : i + 1 < l.length) → (l[i + 1]).num = (l[i]'(by omega)).num + 1
  two : ∀ i, (h : i + 1 < l.length) → (l[i + 1]).live = true ∨ (l[i]'(by omega)).live = true
  first : ∀ v ∈ l, 1 ≤ v.num ∧ 0 < v.stamp ∧ (v.num = 1 → v.live = true) ∧ (v.live = false → v.val = [])

theorem rise_lt {l : List Vr} (h : RiseV l) {i j : Nat} (hij : i < j) (hj : j < l.length) : (l[i]'(by omega)).stamp < (l[j]).stamp := List.pairwise_iff_getElem.1 h i j (by omega) hj hij

theorem cutV_le (l : List Vr) (t : Int) : cutV l t ≤ l.length := by
  unfold cutV
  exact (List.takeWhile_prefix _).length_le

theorem cutV_cons (v : Vr) (l : List Vr) (t : Int) : cutV (v :: l) t = if v.stamp ≤ t then cutV l t + 1 else 0 := by
  unfold cutV
  by_cases h : v.stamp ≤ t
  · rw [List.takeWhile_cons_of_pos (by simpa using h), if_pos h]; rfl
  · rw [List.takeWhile_cons_of_neg (by simpa using h), if_neg h]; rfl

/-- Those ahead of the cut stand at or below t. -/
theorem cutV_below : ∀ (l : List Vr) (t : Int) (i : Nat) (h : i < l.length), i < cutV l t → (l[i]).stamp ≤ t
  | [], _, i, h, _ => by simp at h
  | v :: l, t, i, h, hc => by
    rw [cutV_cons] at hc
    by_cases hv : v.stamp ≤ t
    · rw [if_pos hv] at hc
      cases i with
      | zero => exact hv
      | succ i => exact cutV_below l t i (by simpa using h) (by omega)
    · rw [if_neg hv] at hc; omega

/-- Those behind it above. -/
theorem cutV_above : ∀ (l : List Vr), RiseV l → ∀ (t : Int) (i : Nat) (h : i < l.length), cutV l t ≤ i → t < (l[i]).stamp
  | [], _, _, i, h, _ => by simp at h
  | v :: l, hr, t, i, h, hc => by
    obtain ⟨h1, h2⟩ := List.pairwise_cons.1 hr
    rw [cutV_cons] at hc
    by_cases hv : v.stamp ≤ t
    · rw [if_pos hv] at hc
      cases i with
      | zero => omega
      | succ i => exact cutV_above l h2 t i (by simpa using h) (by omega)
    · cases i with
      | zero => exact Int.not_le.1 hv
      | succ i =>
        have := h1 (l[i]'(by simpa using h)) (List.getElem_mem _)
        simp only [List.getElem_cons_succ]
        omega

theorem cutV_uniq {l : List Vr} (hr : RiseV l) {t : Int} {n : Nat} (hn : n ≤ l.length) (h1 : ∀ i, (h : i < l.length) → i < n → (l[i]).stamp ≤ t) (h2 : ∀ i, (h : i < l.length) → n ≤ i → t < (l[i]).stamp) : cutV l t = n := by
  have hc := cutV_le l t
  rcases Nat.lt_trichotomy (cutV l t) n with h | h | h
  · have a := h1 (cutV l t) (by omega) h
    have b := cutV_above l hr t (cutV l t) (by omega) (Nat.le_refl _)
    omega
  · exact h
  · have a := h2 n (by omega) (Nat.le_refl _)
    have b := cutV_below l t n (by omega) h
    omega

theorem rise_drop {l : List Vr} (h : RiseV l) (n : Nat) : RiseV (l.drop n) := h.sublist (List.drop_sublist n l)

theorem cutV_drop {l : List Vr} (hr : RiseV l) {t : Int} {n : Nat} (hn : n ≤ cutV l t) : cutV (l.drop n) t = cutV l t - n := by
  have hc := cutV_le l t
  refine cutV_uniq (rise_drop hr n) (by rw [List.length_drop]; omega) (fun i h hi => ?_) (fun i h hi => ?_)
  · rw [List.length_drop] at h
    rw [List.getElem_drop]
    exact cutV_below l t _ (by omega) (by omega)
  · rw [List.length_drop] at h
    rw [List.getElem_drop]
    exact cutV_above l hr t _ (by omega) (by omega)

theorem cutV_mono {l : List Vr} (hr : RiseV l) {t u : Int} (h : t ≤ u) : cutV l t ≤ cutV l u := by
  have hc := cutV_le l t
  have hd := cutV_le l u
  rcases Nat.lt_or_ge (cutV l u) (cutV l t) with hlt | hge
  · have a := cutV_below l t (cutV l u) (by omega) hlt
    have b := cutV_above l hr u (cutV l u) (by omega) (Nat.le_refl _)
    omega
  · exact hge

/-- Nothing at f or above is seen to change by a prune. -/
theorem prune_at {l : List Vr} (hr : RiseV l) {f t : Int} (h : f ≤ t) : atV (pruneV l f) t = atV l t := by
  have hm := cutV_mono hr h
  unfold atV pruneV pruneN
  rw [cutV_drop hr (by omega)]
  by_cases h0 : cutV l t = 0
  · rw [if_pos h0, if_pos (by omega)]
  · by_cases h1 : cutV l f = 0
    · rw [h1]; simp
    · rw [if_neg h0, if_neg (by omega), List.getElem?_drop]
      congr 1
      omega

theorem prune_since {l : List Vr} (hr : RiseV l) {f t : Int} (h : f ≤ t) : sinceV (pruneV l f) t = sinceV l t := by
  have hm := cutV_mono hr h
  unfold sinceV pruneV pruneN
  rw [cutV_drop hr (by omega), List.drop_drop]
  congr 1
  omega

theorem prune_last (l : List Vr) (f : Int) : (pruneV l f).getLast? = l.getLast? := by
  unfold pruneV pruneN
  have hc := cutV_le l f
  rw [List.getLast?_eq_getElem?, List.getLast?_eq_getElem?, List.getElem?_drop, List.length_drop]
  by_cases h0 : l.length = 0
  · rw [List.length_eq_zero_iff.1 h0]; simp
  · congr 1
    omega

theorem prune_twice {l : List Vr} (hr : RiseV l) (f : Int) : pruneN (pruneV l f) f = 0 := by
  unfold pruneV pruneN
  rw [cutV_drop hr (by omega)]
  omega

theorem prune_len (l : List Vr) (f : Int) : (pruneV l f).length = l.length - pruneN l f := by unfold pruneV; rw [List.length_drop]

/-- What is left begins with what was visible. -/
theorem prune_head {l : List Vr} {f : Int} {v : Vr} (h : atV l f = some v) : (pruneV l f)[0]? = some v := by
  unfold atV at h
  split at h
  · cases h
  · unfold pruneV pruneN
    rw [List.getElem?_drop, Nat.add_zero]
    exact h

theorem ok_nil : OkV [] := ⟨List.Pairwise.nil, fun i h => by simp at h, fun i h => by simp at h, fun v h => by cases h⟩

theorem ok_drop {l : List Vr} (h : OkV l) (n : Nat) : OkV (l.drop n) := by
  refine ⟨rise_drop h.rise n, fun i hi => ?_, fun i hi => ?_, fun v hv => h.first v (List.mem_of_mem_drop hv)⟩
  · rw [List.length_drop] at hi
    rw [List.getElem_drop, List.getElem_drop]
    exact h.nums (n + i) (by omega)
  · rw [List.length_drop] at hi
    rw [List.getElem_drop, List.getElem_drop]
    exact h.two (n + i) (by omega)

theorem ok_prune {l : List Vr} (h : OkV l) (f : Int) : OkV (pruneV l f) := ok_drop h _

theorem ok_num {l : List Vr} (h : OkV l) : ∀ i, (hi : i < l.length) → (l[i]).num = (l[0]'(by omega)).num + i
  | 0, _ => by simp
  | i + 1, hi => by
    rw [h.nums i hi, ok_num h i (by omega)]
    omega

theorem ok_cut {l : List Vr} (h : OkV l) (i : Nat) (hi : i < l.length) : cutV l (l[i]).stamp = i + 1 := by
  refine cutV_uniq h.rise (by omega) (fun j hj hji => ?_) (fun j hj hij => rise_lt h.rise (by omega) hj)
  rcases Nat.lt_or_ge j i with hlt | hge
  · have := rise_lt h.rise hlt hi
    omega
  · obtain rfl : j = i := by omega
    exact Int.le_refl _

/-- Each is found by its stamp. -/
theorem ok_at {l : List Vr} (h : OkV l) (i : Nat) (hi : i < l.length) : atV l (l[i]).stamp = some l[i] := by
  unfold atV
  rw [ok_cut h i hi, if_neg (by omega), Nat.add_sub_cancel, List.getElem?_eq_getElem hi]

/-- The one with the number n. -/
def numV (l : List Vr) (n : Int) : Option Vr := l.find? fun v => decide (v.num = n)
theorem ok_find {l : List Vr} (h : OkV l) (i : Nat) (hi : i < l.length) : numV l (l[i]).num = some l[i] := by
  unfold numV
  rw [List.find?_eq_some_iff_getElem]
  refine ⟨by simp, i, hi, rfl, fun j hj => ?_⟩
  have a := ok_num h i hi
  have b := ok_num h j (by omega)
  simp only [Bool.not_eq_true', decide_eq_false_iff_not]
  omega

theorem since_zero {l : List Vr} (h : OkV l) : sinceV l 0 = l := by
  unfold sinceV
  have : cutV l 0 = 0 := cutV_uniq h.rise (Nat.zero_le _) (fun i _ hi => by omega) (fun i hi _ => (h.first _ (List.getElem_mem hi)).2.1)
  rw [this, List.drop_zero]

/-- Put: the code (ErrOld, ErrField, ErrNone as old, field, none), and what is there behind it. -/
def lastV (l : List Vr) : Vr := l.getLast?.getD zeroV
def putCode (old field none : Int) (may : Bool) (l : List Vr) (stamp : Int) (live : Bool) : Int :=
  if stamp = 0 ∨ stamp ≤ (lastV l).stamp then old else if live = true ∧ may = false then field else if live = false ∧ (lastV l).live = false then none else 0
def putV (l : List Vr) (stamp tick : Int) (live : Bool) (val : List (ByteArray × List ByteArray)) : List Vr := l ++ [⟨(lastV l).num + 1, stamp, tick, live, if live then val else []⟩]

theorem lastV_snoc (l : List Vr) (v : Vr) : lastV (l ++ [v]) = v := by simp [lastV]

theorem lastV_get {l : List Vr} (h : 0 < l.length) : lastV l = l[l.length - 1] := by
  unfold lastV
  rw [List.getLast?_eq_getElem?, List.getElem?_eq_getElem (by omega)]
  rfl

theorem ok_put {l : List Vr} (h : OkV l) {old field none : Int} {may : Bool} {stamp tick : Int} {live : Bool} {val : List (ByteArray × List ByteArray)} (h0 : 0 ≤ stamp) (e1 : old ≠ 0) (e2 : field ≠ 0) (e3 : none ≠ 0) (hc : putCode old field none may l stamp live = 0) : OkV (putV l stamp tick live val) := by
  unfold putCode at hc
  split at hc
  · exact absurd hc e1
  · next hs =>
    split at hc
    · exact absurd hc e2
    · split at hc
      · exact absurd hc e3
      · next hl =>
        have hl' : live = true ∨ (lastV l).live = true := by
          cases live
          · right
            cases hx : (lastV l).live
            · exact absurd ⟨rfl, hx⟩ hl
            · rfl
          · exact Or.inl rfl
        have hs' : ¬ stamp = 0 ∧ (lastV l).stamp < stamp := ⟨fun e => hs (Or.inl e), Int.not_le.1 fun e => hs (Or.inr e)⟩
        refine ⟨?_, fun i hi => ?_, fun i hi => ?_, fun v hv => ?_⟩
        · refine List.pairwise_append.2 ⟨h.rise, List.pairwise_singleton _ _, fun a ha b hb => ?_⟩
          rw [List.mem_singleton] at hb
          subst hb
          obtain ⟨i, hi, rfl⟩ := List.mem_iff_getElem.1 ha
          have hg := lastV_get (l := l) (by omega)
          show (l[i]).stamp < stamp
          rcases Nat.lt_or_ge i (l.length - 1) with hlt | hge
          · have := rise_lt h.rise hlt (by omega)
            rw [hg] at hs'
            omega
          · have e : i = l.length - 1 := by omega
            subst e
            rw [hg] at hs'
            exact hs'.2
        · unfold putV at hi ⊢
          rw [List.length_append, List.length_singleton] at hi
          rcases Nat.lt_or_ge (i + 1) l.length with hlt | hge
          · rw [List.getElem_append_left hlt, List.getElem_append_left (by omega)]
            exact h.nums i hlt
          · have e : i = l.length - 1 := by omega
            subst e
            rw [List.getElem_append_right (by omega), List.getElem_append_left (by omega)]
            simp only [List.getElem_singleton]
            rw [lastV_get (by omega)]
        · unfold putV at hi ⊢
          rw [List.length_append, List.length_singleton] at hi
          rcases Nat.lt_or_ge (i + 1) l.length with hlt | hge
          · rw [List.getElem_append_left hlt, List.getElem_append_left (by omega)]
            exact h.two i hlt
          · have e : i = l.length - 1 := by omega
            subst e
            rw [List.getElem_append_right (by omega), List.getElem_append_left (by omega)]
            simp only [List.getElem_singleton]
            rw [lastV_get (by omega)] at hl'
            exact hl'
        · unfold putV at hv
          rw [List.mem_append, List.mem_singleton] at hv
          rcases hv with hv | rfl
          · exact h.first v hv
          · have hn : 0 ≤ (lastV l).num ∧ ((lastV l).live = true → 1 ≤ (lastV l).num) := by
              rcases Nat.eq_zero_or_pos l.length with e | e
              · obtain rfl := List.length_eq_zero_iff.1 e
                exact ⟨Int.le_refl _, fun h => by cases h⟩
              · rw [lastV_get e]
                have := (h.first _ (List.getElem_mem (show l.length - 1 < l.length by omega))).1
                exact ⟨by omega, fun _ => this⟩
            refine ⟨by show 1 ≤ (lastV l).num + 1; omega, by show 0 < stamp; omega, fun e => ?_, fun e => ?_⟩
            · show live = true
              rcases hl' with hl' | hl'
              · exact hl'
              · have := hn.2 hl'
                have e' : (lastV l).num + 1 = 1 := e
                omega
            · have e' : live = false := e
              show (if live = true then val else []) = []
              rw [e']; rfl

end Go.Proofs.Ythdakljoabbghaa

/-
  Versions in memory (stage 6), and the reference's SameVersion, SameVersions.
-/
namespace Go.Proofs.Ythdakljoabbghaa
open Go.RowKit

/-- A version as it lies in memory: its value's slice, and the fields there. -/
structure Vx where
  num : Int
  stamp : Int
  tick : Int
  live : Bool
  p : Option Addr
  cap : Nat
  o : List Fx
  deriving Inhabited

def Vx.sl (x : Vx) : Value := .slice x.p x.o.length x.cap
def Vx.ver (x : Vx) : Vr := ⟨x.num, x.stamp, x.tick, x.live, x.o.map Fx.fld⟩
def Vx.at (w : World) (x : Vx) : Prop := IsXs w x.sl x.o
def encVx (x : Vx) : List Value := [.int .i64 x.num, .int .u64 x.stamp, .int .i64 x.tick, .bool x.live, x.sl]
def KV : Kind Vx := ⟨49, 5, encVx, fun _ => rfl, by decide, fun x u hu => by simp [encVx, Vx.sl] at hu; rcases hu with rfl | rfl | rfl | rfl | rfl <;> rfl⟩

theorem kv_at {w : World} {b off : Nat} {d : List Vx} (h : KV.At w b off d) (i : Nat) (hi : i < d.length) :
    w.cell? ⟨b, off + i * 5, none⟩ = some (.int .i64 (d[i]).num) ∧ w.cell? ⟨b, off + i * 5 + 1, none⟩ = some (.int .u64 (d[i]).stamp) ∧ w.cell? ⟨b, off + i * 5 + 2, none⟩ = some (.int .i64 (d[i]).tick) ∧ w.cell? ⟨b, off + i * 5 + 3, none⟩ = some (.bool (d[i]).live) ∧ w.cell? ⟨b, off + i * 5 + 4, none⟩ = some (d[i]).sl :=
  ⟨h i hi 0 _ rfl, h i hi 1 _ rfl, h i hi 2 _ rfl, h i hi 3 _ rfl, h i hi 4 _ rfl⟩

theorem ver_eq {x y : Vx} : x.ver = y.ver ↔ x.num = y.num ∧ x.stamp = y.stamp ∧ x.tick = y.tick ∧ x.live = y.live ∧ x.o.map Fx.fld = y.o.map Fx.fld := by
  unfold Vx.ver
  simp only [Vr.mk.injEq]

set_option maxHeartbeats 2000000 in
set_option maxRecDepth 100000 in
theorem sameV_any (x y : Vx) (w : World) (hx : x.at w) (hy : y.at w) (hf : FitX x.o) (hg : FitX y.o) :
    Calls Try.prog 49 #[.agg (encVx x).toArray, .agg (encVx y).toArray] w fun e w' => e = .returned (.bool (decide (x.ver = y.ver))) ∧ Below w.heap.size w w' := by
  have HSF : Hid (∀ W, Below w.heap.size w W → Calls Try.prog 66 #[x.sl, y.sl] W fun r w' => r = .returned (.bool (decide (x.o.map Fx.fld = y.o.map Fx.fld))) ∧ ∃ n, w' = W.drewN n) := fun W hW => sameF_any x.sl y.sl x.o y.o W (hx.kept hW) (hy.kept hW) hf hg
  have HV := hid (ver_eq (x := x) (y := y))
  obtain ⟨r, hr⟩ : ∃ r, decide (x.ver = y.ver) = r := ⟨_, rfl⟩
  rw [hr]
  have HR := hid hr
  have HBX : Hid (Below w.heap.size w ((w.alloc (.cells (encVx x).toArray 49)).alloc (.cells (encVx y).toArray 49))) := ((Below.refl _ _).alloc (Nat.le_refl _) _).alloc (by simp) _
  obtain ⟨xn, xs, xt, xl, xp, xc, xo⟩ := x
  obtain ⟨yn, ys, yt, yl, yp, yc, yo⟩ := y
  simp only [encVx, Vx.sl] at HSF HBX HV ⊢
  clear hx hy hf hg hr
  have no : ¬ (xn = yn ∧ xs = ys ∧ xt = yt ∧ xl = yl ∧ xo.map Fx.fld = yo.map Fx.fld) → r = false := fun h => by rw [← HR.out]; exact decide_eq_false fun e => h (HV.out.1 e)
  have NO := hid no
  clear no
  show Calls Try.prog 49 #[.agg #[.int .i64 xn, .int .u64 xs, .int .i64 xt, .bool xl, .slice xp xo.length xc], .agg #[.int .i64 yn, .int .u64 ys, .int .i64 yt, .bool yl, .slice yp yo.length yc]] w _
  by_cases h1 : xn = yn
  · by_cases h2 : xs = ys
    · by_cases h3 : xt = yt
      · by_cases h4 : xl = yl
        · have HEQ : Hid (r = decide (xo.map Fx.fld = yo.map Fx.fld)) := by
            show _ = _
            rw [← HR.out, decide_eq_decide]
            rw [HV.out]
            exact ⟨fun h => h.2.2.2.2, fun h => ⟨h1, h2, h3, h4, h⟩⟩
          subst h1 h2 h3 h4
          have HC := hid (HSF.out _ HBX.out)
          clear NO HV HR HSF
          obtain ⟨Q, hQ⟩ : ∃ Q, decide (xo.map Fx.fld = yo.map Fx.fld) = Q := ⟨_, rfl⟩
          rw [hQ] at HC HEQ
          clear hQ
          cases xl
          all_goals
            go_enter Try.func49, Try.ntmps49
            go_wp2_with fail
            refine HC.out.mono ?_
            rintro e w1 ⟨rfl, n1, rfl⟩
            go_wp2_with fail
            go_ret
            exact ⟨ret_bool HEQ.out.symm, bel_drewN HBX.out n1⟩
        · have HN := hid (NO.out fun h => h4 h.2.2.2.1)
          subst h1 h2 h3
          have h4' : (xl == yl) = false := by simpa using h4
          clear NO HV HR HSF h4
          go_enter Try.func49, Try.ntmps49
          go_wp2_with fail
          go_ret
          exact ⟨ret_bool HN.out.symm, HBX.out⟩
      · have HN := hid (NO.out fun h => h3 h.2.2.1)
        subst h1 h2
        have h3' : (xt == yt) = false := by simpa using h3
        clear NO HV HR HSF h3
        go_enter Try.func49, Try.ntmps49
        go_wp2_with fail
        go_ret
        exact ⟨ret_bool HN.out.symm, HBX.out⟩
    · have HN := hid (NO.out fun h => h2 h.2.1)
      subst h1
      have h2' : (xs == ys) = false := by simpa using h2
      clear NO HV HR HSF h2
      go_enter Try.func49, Try.ntmps49
      go_wp2_with fail
      go_ret
      exact ⟨ret_bool HN.out.symm, HBX.out⟩
  · have HN := hid (NO.out fun h => h1 h.1)
    have h1' : (xn == yn) = false := by simpa using h1
    clear NO HV HR HSF h1
    go_enter Try.func49, Try.ntmps49
    go_wp2_with fail
    go_ret
    exact ⟨ret_bool HN.out.symm, HBX.out⟩

/-- The cells of a version, from a on in block b. -/
def CellsV (w : World) (b a : Nat) (x : Vx) : Prop := w.cell? ⟨b, a, none⟩ = some (.int .i64 x.num) ∧ w.cell? ⟨b, a + 1, none⟩ = some (.int .u64 x.stamp) ∧ w.cell? ⟨b, a + 2, none⟩ = some (.int .i64 x.tick) ∧ w.cell? ⟨b, a + 3, none⟩ = some (.bool x.live) ∧ w.cell? ⟨b, a + 4, none⟩ = some x.sl

end Go.Proofs.Ythdakljoabbghaa

/-
  Finds in memory (stage 7), and the reference's SameFound.
-/
namespace Go.Proofs.Ythdakljoabbghaa
open Go.RowKit

/-- A find as it lies in memory: its key, and its version. -/
structure Fd where
  a : ByteArray
  b : ByteArray
  v : Vx
  deriving Inhabited

/-- A find by what it says. -/
abbrev Fnd := (ByteArray × ByteArray) × Vr

def Fd.fnd (x : Fd) : Fnd := ((x.a, x.b), x.v.ver)
def encFd (x : Fd) : List Value := .string x.a :: .string x.b :: encVx x.v
def KFd : Kind Fd := ⟨51, 7, encFd, fun _ => rfl, by decide, fun x u hu => by simp [encFd, encVx, Vx.sl] at hu; rcases hu with rfl | rfl | rfl | rfl | rfl | rfl | rfl <;> rfl⟩

/-- The cells of a find, from o on in block b. -/
def CellsF (w : World) (b o : Nat) (x : Fd) : Prop := w.cell? ⟨b, o, none⟩ = some (.string x.a) ∧ w.cell? ⟨b, o + 1, none⟩ = some (.string x.b) ∧ CellsV w b (o + 2) x.v

theorem kfd_at {w : World} {b off : Nat} {d : List Fd} (h : KFd.At w b off d) (i : Nat) (hi : i < d.length) : CellsF w b (off + i * 7) d[i] :=
  ⟨h i hi 0 _ rfl, h i hi 1 _ rfl, h i hi 2 _ rfl, h i hi 3 _ rfl, h i hi 4 _ rfl, h i hi 5 _ rfl, h i hi 6 _ rfl⟩

set_option maxHeartbeats 2000000 in
set_option maxRecDepth 100000 in
theorem sameFd_any (v u : Value) (d e : List Fd) (w : World) (hv : KFd.Is w v d) (hu : KFd.Is w u e) (ha : ∀ x ∈ d, x.v.at w ∧ FitX x.v.o) (hb : ∀ x ∈ e, x.v.at w ∧ FitX x.v.o) (hl : d.length ≤ maxLen) :
    Calls Try.prog 25 #[v, u] w fun r w' => r = .returned (.bool (decide (d.map Fd.fnd = e.map Fd.fnd))) ∧ Below w.heap.size w w' := by
  obtain ⟨p, cap, rfl, hd⟩ := hv
  obtain ⟨q, cap', rfl, he⟩ := hu
  unfold maxLen at hl
  have HD := hid hd
  have HE := hid he
  have HA := hid ha
  have HB := hid hb
  obtain ⟨r, hr⟩ : ∃ r, decide (d.map Fd.fnd = e.map Fd.fnd) = r := ⟨_, rfl⟩
  rw [hr]
  have HR := hid hr
  clear hr hd he ha hb
  by_cases hle : d.length = e.length
  · have hbn : ((d.length : Int) != (e.length : Int)) = false := by simp [hle]
    have HL := hid hle
    clear hle
    go_enter Try.func25, Try.ntmps25
    go_wp2_with fail
    go_loopg [5] d.length (fun g vi wr => ∃ i : Nat, vi = .int .i64 i ∧ i ≤ d.length ∧ d.length - i ≤ g ∧ Hid (Below w.heap.size w wr) ∧ Hid (∀ j, j < i → (d.map Fd.fnd)[j]? = (e.map Fd.fnd)[j]?))
    case atStart => exact ⟨0, rfl, by omega, by omega, Below.refl _ _, fun j h => by omega⟩
    case round =>
      obtain ⟨i, rfl, hi, hgk, HW, HJ⟩ := hrel
      by_cases hlt : i < d.length
      · have hlt2 : i < e.length := by rw [← HL.out]; exact hlt
        have i1 : (0 : Int) ≤ ↑i := by omega
        have i2 : (↑i : Int) < ↑d.length := by omega
        have i3 : (↑i : Int) < ↑e.length := by omega
        obtain ⟨b1, o1, rfl, k1⟩ : ∃ b off, p = some ⟨b, off, none⟩ ∧ KFd.At w b off d := by
          rcases HD.out with h | h
          · rw [h] at hlt; simp at hlt
          · exact h
        obtain ⟨b2, o2, rfl, k2⟩ : ∃ b off, q = some ⟨b, off, none⟩ ∧ KFd.At w b off e := by
          rcases HE.out with h | h
          · rw [h] at hlt2; simp at hlt2
          · exact h
        have hc1 : ∀ W, Below w.heap.size w W → CellsF W b1 (o1 + i * 7) d[i] := fun W hW => kfd_at (Kind.at_kept k1 hW) i hlt
        have hc2 : ∀ W, Below w.heap.size w W → CellsF W b2 (o2 + i * 7) e[i] := fun W hW => kfd_at (Kind.at_kept k2 hW) i hlt2
        have g1 : (d.map Fd.fnd)[i]? = some (d[i]).fnd := by rw [List.getElem?_map, List.getElem?_eq_getElem hlt]; rfl
        have g2 : (e.map Fd.fnd)[i]? = some (e[i]).fnd := by rw [List.getElem?_map, List.getElem?_eq_getElem hlt2]; rfl
        have f1 := HA.out _ (List.getElem_mem hlt)
        have f2 := HB.out _ (List.getElem_mem hlt2)
        obtain ⟨x, hx⟩ : ∃ x, d[i] = x := ⟨_, rfl⟩
        obtain ⟨y, hy⟩ : ∃ y, e[i] = y := ⟨_, rfl⟩
        rw [hx] at hc1 g1 f1
        rw [hy] at hc2 g2 f2
        have HC : Hid (∀ W, Below w.heap.size w W → Calls Try.prog 49 #[.agg (encVx x.v).toArray, .agg (encVx y.v).toArray] W fun e w' => e = .returned (.bool (decide (x.v.ver = y.v.ver))) ∧ Below W.heap.size W w') := fun W hW => sameV_any x.v y.v W (f1.1.kept hW) (f2.1.kept hW) f1.2 f2.2
        have G1 := hid g1
        have G2 := hid g2
        have HS : Hid (∀ W, Below w.heap.size w W → CellsF W b1 (o1 + i * 7) x ∧ CellsF W b2 (o2 + i * 7) y) := fun W hW => ⟨hc1 W hW, hc2 W hW⟩
        have HWD : Hid (Below w.heap.size w wr.drew) := HW.out.drew
        have hne := fun W => Z.neq_key x.a x.b y.a y.b W
        have heq := Z.eqK_iff (x.a, x.b) (y.a, y.b)
        simp only at heq
        rw [heq] at hne
        obtain ⟨Q, hQ⟩ : ∃ Q, decide (x.v.ver = y.v.ver) = Q := ⟨_, rfl⟩
        have HQ := hid hQ
        rw [hQ] at HC
        have HXY : Hid (x.fnd = y.fnd ↔ (x.a, x.b) = (y.a, y.b) ∧ x.v.ver = y.v.ver) := by
          show _ ↔ _
          simp [Fd.fnd]
        clear hc1 hc2 k1 k2 g1 g2 f1 f2 hx hy hQ heq
        go_upto_region 6 with fail
        go_cut [41] from 15 to 41 (fun c wx => c = .bool (!decide (x.fnd = y.fnd)) ∧ Hid (Below w.heap.size w wx))
        case first =>
          by_cases hk : (x.a, x.b) = (y.a, y.b)
          · rw [decide_eq_true hk] at hne
            have HE1 : Hid (decide (x.fnd = y.fnd) = Q) := by
              show _ = _
              rw [← HQ.out, decide_eq_decide, HXY.out]
              exact ⟨fun h => h.2, fun h => ⟨hk, h⟩⟩
            obtain ⟨xa, xb, ⟨xn, xs, xt, xl, xp, xc, xo⟩⟩ := x
            obtain ⟨ya, yb, ⟨yn, ys, yt, yl, yp, yc, yo⟩⟩ := y
            simp only [CellsF, CellsV, Vx.sl, encVx] at HS HC
            clear hk HXY HQ G1 G2 HJ
            refine wp_region_held_drew (S := fun w' => (w'.cell? ⟨b1, o1 + i * 7, none⟩ = some (.string xa) ∧ w'.cell? ⟨b1, o1 + i * 7 + 1, none⟩ = some (.string xb) ∧ w'.cell? ⟨b1, o1 + i * 7 + 2, none⟩ = some (.int .i64 xn) ∧ w'.cell? ⟨b1, o1 + i * 7 + 2 + 1, none⟩ = some (.int .u64 xs) ∧ w'.cell? ⟨b1, o1 + i * 7 + 2 + 2, none⟩ = some (.int .i64 xt) ∧ w'.cell? ⟨b1, o1 + i * 7 + 2 + 3, none⟩ = some (.bool xl) ∧ w'.cell? ⟨b1, o1 + i * 7 + 2 + 4, none⟩ = some (.slice xp xo.length xc)) ∧ w'.cell? ⟨b2, o2 + i * 7, none⟩ = some (.string ya) ∧ w'.cell? ⟨b2, o2 + i * 7 + 1, none⟩ = some (.string yb) ∧ w'.cell? ⟨b2, o2 + i * 7 + 2, none⟩ = some (.int .i64 yn) ∧ w'.cell? ⟨b2, o2 + i * 7 + 2 + 1, none⟩ = some (.int .u64 ys) ∧ w'.cell? ⟨b2, o2 + i * 7 + 2 + 2, none⟩ = some (.int .i64 yt) ∧ w'.cell? ⟨b2, o2 + i * 7 + 2 + 3, none⟩ = some (.bool yl) ∧ w'.cell? ⟨b2, o2 + i * 7 + 2 + 4, none⟩ = some (.slice yp yo.length yc)) (by kernel_rfl) (by have := HS.out _ HWD.out; simpa only [and_assoc] using this) (fun hHeld => ?_)
            refine take_val (i := 0) (.slice (some ⟨b1, o1, none⟩) d.length cap) rfl (by kernel_rfl) (by kernel_rfl) (by kernel_rfl) (fun _ _ _ h => h) (by rfl) (fun w hSw => by go_simp) hHeld ?_
            simp only [Act.put, List.setIfInBounds_toArray, List.set_cons_zero, List.set_cons_succ]
            refine take_val (i := 1) (.int .i64 i) rfl (by kernel_rfl) (by kernel_rfl) (by kernel_rfl) (fun _ _ _ h => h) (by rfl) (fun w hSw => by go_simp) hHeld ?_
            simp only [Act.put, List.setIfInBounds_toArray, List.set_cons_zero, List.set_cons_succ]
            refine take_val (i := 2) (.pointer (some ⟨b1, o1 + i * 7, none⟩)) rfl (by kernel_rfl) (by kernel_rfl) (by kernel_rfl) (fun _ _ _ h => h) (by rfl) (fun w hSw => by go_simp) hHeld ?_
            simp only [Act.put, List.setIfInBounds_toArray, List.set_cons_zero, List.set_cons_succ]
            refine take_val (i := 3) (.pointer (some ⟨b1, o1 + i * 7, none⟩)) rfl (by kernel_rfl) (by kernel_rfl) (by kernel_rfl) (fun _ _ _ h => h) (by rfl) (fun w hSw => by go_simp) hHeld ?_
            simp only [Act.put, List.setIfInBounds_toArray, List.set_cons_zero, List.set_cons_succ]
            refine take_val (i := 4) (.agg #[.string xa, .string xb]) rfl (by kernel_rfl) (by kernel_rfl) (by kernel_rfl) (fun _ _ _ h => h) (by rfl) (fun w hSw => by go_simp) hHeld ?_
            simp only [Act.put, List.setIfInBounds_toArray, List.set_cons_zero, List.set_cons_succ]
            refine take_val (i := 5) (.slice (some ⟨b2, o2, none⟩) e.length cap') rfl (by kernel_rfl) (by kernel_rfl) (by kernel_rfl) (fun _ _ _ h => h) (by rfl) (fun w hSw => by go_simp) hHeld ?_
            simp only [Act.put, List.setIfInBounds_toArray, List.set_cons_zero, List.set_cons_succ]
            refine take_val (i := 6) (.int .i64 i) rfl (by kernel_rfl) (by kernel_rfl) (by kernel_rfl) (fun _ _ _ h => h) (by rfl) (fun w hSw => by go_simp) hHeld ?_
            simp only [Act.put, List.setIfInBounds_toArray, List.set_cons_zero, List.set_cons_succ]
            refine take_val (i := 7) (.pointer (some ⟨b2, o2 + i * 7, none⟩)) rfl (by kernel_rfl) (by kernel_rfl) (by kernel_rfl) (fun _ _ _ h => h) (by rfl) (fun w hSw => by go_simp) hHeld ?_
            simp only [Act.put, List.setIfInBounds_toArray, List.set_cons_zero, List.set_cons_succ]
            refine take_val (i := 8) (.pointer (some ⟨b2, o2 + i * 7, none⟩)) rfl (by kernel_rfl) (by kernel_rfl) (by kernel_rfl) (fun _ _ _ h => h) (by rfl) (fun w hSw => by go_simp) hHeld ?_
            simp only [Act.put, List.setIfInBounds_toArray, List.set_cons_zero, List.set_cons_succ]
            refine take_val (i := 9) (.agg #[.string ya, .string yb]) rfl (by kernel_rfl) (by kernel_rfl) (by kernel_rfl) (fun _ _ _ h => h) (by rfl) (fun w hSw => by go_simp) hHeld ?_
            simp only [Act.put, List.setIfInBounds_toArray, List.set_cons_zero, List.set_cons_succ]
            refine take_val (i := 10) (.bool false) rfl (by kernel_rfl) (by kernel_rfl) (by kernel_rfl) (fun _ _ _ h => h) (by rfl) (fun w hSw => by go_simp) hHeld ?_
            simp only [Act.put, List.setIfInBounds_toArray, List.set_cons_zero, List.set_cons_succ]
            refine take_val (i := 11) (.bool false) rfl (by kernel_rfl) (by kernel_rfl) (by kernel_rfl) (fun _ _ _ h => h) (by rfl) (fun w hSw => by go_simp) hHeld ?_
            simp only [Act.put, List.setIfInBounds_toArray, List.set_cons_zero, List.set_cons_succ]
            refine take_val (i := 12) (.slice (some ⟨b1, o1, none⟩) d.length cap) rfl (by kernel_rfl) (by kernel_rfl) (by kernel_rfl) (fun _ _ _ h => h) (by rfl) (fun w hSw => by go_simp) hHeld ?_
            simp only [Act.put, List.setIfInBounds_toArray, List.set_cons_zero, List.set_cons_succ]
            refine take_val (i := 13) (.int .i64 i) rfl (by kernel_rfl) (by kernel_rfl) (by kernel_rfl) (fun _ _ _ h => h) (by rfl) (fun w hSw => by go_simp) hHeld ?_
            simp only [Act.put, List.setIfInBounds_toArray, List.set_cons_zero, List.set_cons_succ]
            refine take_val (i := 14) (.pointer (some ⟨b1, o1 + i * 7, none⟩)) rfl (by kernel_rfl) (by kernel_rfl) (by kernel_rfl) (fun _ _ _ h => h) (by rfl) (fun w hSw => by go_simp) hHeld ?_
            simp only [Act.put, List.setIfInBounds_toArray, List.set_cons_zero, List.set_cons_succ]
            refine take_val (i := 15) (.pointer (some ⟨b1, o1 + i * 7 + 2, none⟩)) rfl (by kernel_rfl) (by kernel_rfl) (by kernel_rfl) (fun _ _ _ h => h) (by rfl) (fun w hSw => by go_simp) hHeld ?_
            simp only [Act.put, List.setIfInBounds_toArray, List.set_cons_zero, List.set_cons_succ]
            refine take_val (i := 16) (.agg #[.int .i64 xn, .int .u64 xs, .int .i64 xt, .bool xl, .slice xp xo.length xc]) rfl (by kernel_rfl) (by kernel_rfl) (by kernel_rfl) (fun _ _ _ h => h) (by rfl) (fun w hSw => by go_simp) hHeld ?_
            simp only [Act.put, List.setIfInBounds_toArray, List.set_cons_zero, List.set_cons_succ]
            refine take_val (i := 17) (.slice (some ⟨b2, o2, none⟩) e.length cap') rfl (by kernel_rfl) (by kernel_rfl) (by kernel_rfl) (fun _ _ _ h => h) (by rfl) (fun w hSw => by go_simp) hHeld ?_
            simp only [Act.put, List.setIfInBounds_toArray, List.set_cons_zero, List.set_cons_succ]
            refine take_val (i := 18) (.int .i64 i) rfl (by kernel_rfl) (by kernel_rfl) (by kernel_rfl) (fun _ _ _ h => h) (by rfl) (fun w hSw => by go_simp) hHeld ?_
            simp only [Act.put, List.setIfInBounds_toArray, List.set_cons_zero, List.set_cons_succ]
            refine take_val (i := 19) (.pointer (some ⟨b2, o2 + i * 7, none⟩)) rfl (by kernel_rfl) (by kernel_rfl) (by kernel_rfl) (fun _ _ _ h => h) (by rfl) (fun w hSw => by go_simp) hHeld ?_
            simp only [Act.put, List.setIfInBounds_toArray, List.set_cons_zero, List.set_cons_succ]
            refine take_val (i := 20) (.pointer (some ⟨b2, o2 + i * 7 + 2, none⟩)) rfl (by kernel_rfl) (by kernel_rfl) (by kernel_rfl) (fun _ _ _ h => h) (by rfl) (fun w hSw => by go_simp) hHeld ?_
            simp only [Act.put, List.setIfInBounds_toArray, List.set_cons_zero, List.set_cons_succ]
            refine take_val (i := 21) (.agg #[.int .i64 yn, .int .u64 ys, .int .i64 yt, .bool yl, .slice yp yo.length yc]) rfl (by kernel_rfl) (by kernel_rfl) (by kernel_rfl) (fun _ _ _ h => h) (by rfl) (fun w hSw => by go_simp) hHeld ?_
            simp only [Act.put, List.setIfInBounds_toArray, List.set_cons_zero, List.set_cons_succ]
            refine wpAnyH_ready (rs := [22]) (by kernel_rfl) (by simp) ?_
            refine AllReadyH.cons (at_drop0 rfl) (fun K hK => ?_) AllReadyH.nil
            rw [if_pos (by rfl)]
            go_simp
            refine (HC.out _ HWD.out).mono ?_
            rintro z w1 ⟨rfl, hq1⟩
            have HB1 := hid (bel_then HWD.out HWD.out.size hq1)
            clear hq1 hHeld
            go_wp2_with fail
            refine hK.out _ _ (by have := HS.out _ HB1.out; simpa only [and_assoc] using this) (fun hHeld => ?_)
            clear hK K
            try simp only [Act.put, List.setIfInBounds_toArray, List.set_cons_zero, List.set_cons_succ]
            refine take_val (i := 23) (.bool (!Q)) rfl (by kernel_rfl) (by kernel_rfl) (by kernel_rfl) (fun _ _ _ h => h) (by rfl) (fun w hSw => by go_simp) hHeld ?_
            simp only [Act.put, List.setIfInBounds_toArray, List.set_cons_zero, List.set_cons_succ]
            refine take_val (i := 24) (.bool (!Q)) rfl (by kernel_rfl) (by kernel_rfl) (by kernel_rfl) (fun _ _ _ h => h) (by rfl) (fun w hSw => by go_simp) hHeld ?_
            simp only [Act.put, List.setIfInBounds_toArray, List.set_cons_zero, List.set_cons_succ]
            refine wpAnyH_done (by kernel_rfl) ?_ _
            clear hHeld
            go_wp2_with fail
            go_meet
            exact ⟨congrArg (fun b => Value.bool (!b)) HE1.out.symm, HB1.out⟩
          · rw [decide_eq_false hk] at hne
            have HE1 : Hid (decide (x.fnd = y.fnd) = false) := decide_eq_false fun h => hk (HXY.out.1 h).1
            obtain ⟨xa, xb, ⟨xn, xs, xt, xl, xp, xc, xo⟩⟩ := x
            obtain ⟨ya, yb, ⟨yn, ys, yt, yl, yp, yc, yo⟩⟩ := y
            simp only [CellsF, CellsV, Vx.sl, encVx] at HS HC
            clear hk HXY HQ G1 G2 HJ HC
            refine wp_region_held_drew (S := fun w' => (w'.cell? ⟨b1, o1 + i * 7, none⟩ = some (.string xa) ∧ w'.cell? ⟨b1, o1 + i * 7 + 1, none⟩ = some (.string xb) ∧ w'.cell? ⟨b1, o1 + i * 7 + 2, none⟩ = some (.int .i64 xn) ∧ w'.cell? ⟨b1, o1 + i * 7 + 2 + 1, none⟩ = some (.int .u64 xs) ∧ w'.cell? ⟨b1, o1 + i * 7 + 2 + 2, none⟩ = some (.int .i64 xt) ∧ w'.cell? ⟨b1, o1 + i * 7 + 2 + 3, none⟩ = some (.bool xl) ∧ w'.cell? ⟨b1, o1 + i * 7 + 2 + 4, none⟩ = some (.slice xp xo.length xc)) ∧ w'.cell? ⟨b2, o2 + i * 7, none⟩ = some (.string ya) ∧ w'.cell? ⟨b2, o2 + i * 7 + 1, none⟩ = some (.string yb) ∧ w'.cell? ⟨b2, o2 + i * 7 + 2, none⟩ = some (.int .i64 yn) ∧ w'.cell? ⟨b2, o2 + i * 7 + 2 + 1, none⟩ = some (.int .u64 ys) ∧ w'.cell? ⟨b2, o2 + i * 7 + 2 + 2, none⟩ = some (.int .i64 yt) ∧ w'.cell? ⟨b2, o2 + i * 7 + 2 + 3, none⟩ = some (.bool yl) ∧ w'.cell? ⟨b2, o2 + i * 7 + 2 + 4, none⟩ = some (.slice yp yo.length yc)) (by kernel_rfl) (by have := HS.out _ HWD.out; simpa only [and_assoc] using this) (fun hHeld => ?_)
            refine take_val (i := 0) (.slice (some ⟨b1, o1, none⟩) d.length cap) rfl (by kernel_rfl) (by kernel_rfl) (by kernel_rfl) (fun _ _ _ h => h) (by rfl) (fun w hSw => by go_simp) hHeld ?_
            simp only [Act.put, List.setIfInBounds_toArray, List.set_cons_zero, List.set_cons_succ]
            refine take_val (i := 1) (.int .i64 i) rfl (by kernel_rfl) (by kernel_rfl) (by kernel_rfl) (fun _ _ _ h => h) (by rfl) (fun w hSw => by go_simp) hHeld ?_
            simp only [Act.put, List.setIfInBounds_toArray, List.set_cons_zero, List.set_cons_succ]
            refine take_val (i := 2) (.pointer (some ⟨b1, o1 + i * 7, none⟩)) rfl (by kernel_rfl) (by kernel_rfl) (by kernel_rfl) (fun _ _ _ h => h) (by rfl) (fun w hSw => by go_simp) hHeld ?_
            simp only [Act.put, List.setIfInBounds_toArray, List.set_cons_zero, List.set_cons_succ]
            refine take_val (i := 3) (.pointer (some ⟨b1, o1 + i * 7, none⟩)) rfl (by kernel_rfl) (by kernel_rfl) (by kernel_rfl) (fun _ _ _ h => h) (by rfl) (fun w hSw => by go_simp) hHeld ?_
            simp only [Act.put, List.setIfInBounds_toArray, List.set_cons_zero, List.set_cons_succ]
            refine take_val (i := 4) (.agg #[.string xa, .string xb]) rfl (by kernel_rfl) (by kernel_rfl) (by kernel_rfl) (fun _ _ _ h => h) (by rfl) (fun w hSw => by go_simp) hHeld ?_
            simp only [Act.put, List.setIfInBounds_toArray, List.set_cons_zero, List.set_cons_succ]
            refine take_val (i := 5) (.slice (some ⟨b2, o2, none⟩) e.length cap') rfl (by kernel_rfl) (by kernel_rfl) (by kernel_rfl) (fun _ _ _ h => h) (by rfl) (fun w hSw => by go_simp) hHeld ?_
            simp only [Act.put, List.setIfInBounds_toArray, List.set_cons_zero, List.set_cons_succ]
            refine take_val (i := 6) (.int .i64 i) rfl (by kernel_rfl) (by kernel_rfl) (by kernel_rfl) (fun _ _ _ h => h) (by rfl) (fun w hSw => by go_simp) hHeld ?_
            simp only [Act.put, List.setIfInBounds_toArray, List.set_cons_zero, List.set_cons_succ]
            refine take_val (i := 7) (.pointer (some ⟨b2, o2 + i * 7, none⟩)) rfl (by kernel_rfl) (by kernel_rfl) (by kernel_rfl) (fun _ _ _ h => h) (by rfl) (fun w hSw => by go_simp) hHeld ?_
            simp only [Act.put, List.setIfInBounds_toArray, List.set_cons_zero, List.set_cons_succ]
            refine take_val (i := 8) (.pointer (some ⟨b2, o2 + i * 7, none⟩)) rfl (by kernel_rfl) (by kernel_rfl) (by kernel_rfl) (fun _ _ _ h => h) (by rfl) (fun w hSw => by go_simp) hHeld ?_
            simp only [Act.put, List.setIfInBounds_toArray, List.set_cons_zero, List.set_cons_succ]
            refine take_val (i := 9) (.agg #[.string ya, .string yb]) rfl (by kernel_rfl) (by kernel_rfl) (by kernel_rfl) (fun _ _ _ h => h) (by rfl) (fun w hSw => by go_simp) hHeld ?_
            simp only [Act.put, List.setIfInBounds_toArray, List.set_cons_zero, List.set_cons_succ]
            refine take_val (i := 10) (.bool true) rfl (by kernel_rfl) (by kernel_rfl) (by kernel_rfl) (fun _ _ _ h => h) (by rfl) (fun w hSw => by go_simp) hHeld ?_
            simp only [Act.put, List.setIfInBounds_toArray, List.set_cons_zero, List.set_cons_succ]
            refine take_val (i := 11) (.bool true) rfl (by kernel_rfl) (by kernel_rfl) (by kernel_rfl) (fun _ _ _ h => h) (by rfl) (fun w hSw => by go_simp) hHeld ?_
            simp only [Act.put, List.setIfInBounds_toArray, List.set_cons_zero, List.set_cons_succ]
            refine take_not (i := 12) rfl (by kernel_rfl) (by kernel_rfl) (by kernel_rfl) (fun _ _ _ h => h) (by rfl) hHeld ?_
            simp only [Act.put, List.setIfInBounds_toArray, List.set_cons_zero, List.set_cons_succ]
            refine take_not (i := 13) rfl (by kernel_rfl) (by kernel_rfl) (by kernel_rfl) (fun _ _ _ h => h) (by rfl) hHeld ?_
            simp only [Act.put, List.setIfInBounds_toArray, List.set_cons_zero, List.set_cons_succ]
            refine take_not (i := 14) rfl (by kernel_rfl) (by kernel_rfl) (by kernel_rfl) (fun _ _ _ h => h) (by rfl) hHeld ?_
            simp only [Act.put, List.setIfInBounds_toArray, List.set_cons_zero, List.set_cons_succ]
            refine take_not (i := 15) rfl (by kernel_rfl) (by kernel_rfl) (by kernel_rfl) (fun _ _ _ h => h) (by rfl) hHeld ?_
            simp only [Act.put, List.setIfInBounds_toArray, List.set_cons_zero, List.set_cons_succ]
            refine take_not (i := 16) rfl (by kernel_rfl) (by kernel_rfl) (by kernel_rfl) (fun _ _ _ h => h) (by rfl) hHeld ?_
            simp only [Act.put, List.setIfInBounds_toArray, List.set_cons_zero, List.set_cons_succ]
            refine take_not (i := 17) rfl (by kernel_rfl) (by kernel_rfl) (by kernel_rfl) (fun _ _ _ h => h) (by rfl) hHeld ?_
            simp only [Act.put, List.setIfInBounds_toArray, List.set_cons_zero, List.set_cons_succ]
            refine take_not (i := 18) rfl (by kernel_rfl) (by kernel_rfl) (by kernel_rfl) (fun _ _ _ h => h) (by rfl) hHeld ?_
            simp only [Act.put, List.setIfInBounds_toArray, List.set_cons_zero, List.set_cons_succ]
            refine take_not (i := 19) rfl (by kernel_rfl) (by kernel_rfl) (by kernel_rfl) (fun _ _ _ h => h) (by rfl) hHeld ?_
            simp only [Act.put, List.setIfInBounds_toArray, List.set_cons_zero, List.set_cons_succ]
            refine take_not (i := 20) rfl (by kernel_rfl) (by kernel_rfl) (by kernel_rfl) (fun _ _ _ h => h) (by rfl) hHeld ?_
            simp only [Act.put, List.setIfInBounds_toArray, List.set_cons_zero, List.set_cons_succ]
            refine take_not (i := 21) rfl (by kernel_rfl) (by kernel_rfl) (by kernel_rfl) (fun _ _ _ h => h) (by rfl) hHeld ?_
            simp only [Act.put, List.setIfInBounds_toArray, List.set_cons_zero, List.set_cons_succ]
            refine take_not (i := 22) rfl (by kernel_rfl) (by kernel_rfl) (by kernel_rfl) (fun _ _ _ h => h) (by rfl) hHeld ?_
            simp only [Act.put, List.setIfInBounds_toArray, List.set_cons_zero, List.set_cons_succ]
            refine take_not (i := 23) rfl (by kernel_rfl) (by kernel_rfl) (by kernel_rfl) (fun _ _ _ h => h) (by rfl) hHeld ?_
            simp only [Act.put, List.setIfInBounds_toArray, List.set_cons_zero, List.set_cons_succ]
            refine take_val (i := 24) (.bool true) rfl (by kernel_rfl) (by kernel_rfl) (by kernel_rfl) (fun _ _ _ h => h) (by rfl) (fun w hSw => by go_simp) hHeld ?_
            simp only [Act.put, List.setIfInBounds_toArray, List.set_cons_zero, List.set_cons_succ]
            refine wpAnyH_done (by kernel_rfl) ?_ _
            clear hHeld
            go_wp2_with fail
            go_meet
            exact ⟨congrArg (fun b => Value.bool (!b)) HE1.out.symm, HWD.out⟩
        case rest =>
          obtain ⟨rfl, HB1⟩ := hcut
          obtain ⟨Z, hZ⟩ : ∃ Z, decide (x.fnd = y.fnd) = Z := ⟨_, rfl⟩
          rw [hZ]
          have HZ := hid hZ
          clear hZ hne HC HS HXY HQ
          cases Z with
          | true =>
            go_wp2_with fail
            go_roundg (d.length - (i + 1))
            case measure => omega
            refine ⟨i + 1, by go_num, by omega, by omega, HB1.out, fun j hj => ?_⟩
            by_cases ej : j = i
            · subst ej
              rw [G1.out, G2.out, of_decide_eq_true HZ.out]
            · exact HJ.out j (by omega)
          | false =>
            have H0 : Hid (r = false) := HR.out.symm.trans (decide_eq_false fun h => by
              have h1 := G1.out
              rw [h, G2.out] at h1
              exact of_decide_eq_false HZ.out (Option.some.inj h1).symm)
            go_wp2_with fail
            go_ret
            exact ⟨ret_bool H0.out.symm, HB1.out⟩
      · have hltz : ¬ (i : Int) < (d.length : Int) := by omega
        have H0 : Hid (r = true) := HR.out.symm.trans (decide_eq_true (List.ext_getElem? fun j => by
          by_cases hj : j < d.length
          · exact HJ.out j (by omega)
          · rw [List.getElem?_eq_none (by rw [List.length_map]; omega), List.getElem?_eq_none (by rw [List.length_map]; have := HL.out; omega)]))
        go_wp2_with fail
        go_ret
        exact ⟨ret_bool H0.out.symm, HW.out⟩
  · have hbn : ((d.length : Int) != (e.length : Int)) = true := by simp; omega
    have H0 : Hid (r = false) := HR.out.symm.trans (decide_eq_false fun h => hle (by simpa using congrArg List.length h))
    go_enter Try.func25, Try.ntmps25
    go_wp2_with fail
    go_ret
    exact ⟨ret_bool H0.out.symm, Below.refl _ _⟩

end Go.Proofs.Ythdakljoabbghaa

/-
  Finds and keys that came in. No program.
-/
namespace Go.Proofs.Ythdakljoabbghaa
open Go.RowKit

def FitKy (k : Ky) : Prop := k.1.size ≤ maxLen ∧ k.2.size ≤ maxLen

/-- Finds that came in. -/
structure FoundIn (W : World) (v : Value) (fo : List Fd) : Prop where
  is : KFd.Is W v fo
  each : ∀ f ∈ fo, f.v.at W ∧ FitX f.v.o ∧ CopyX f.v.o
  kfit : ∀ f ∈ fo, FitKy (f.a, f.b)
theorem FoundIn.on {W W' : World} {v : Value} {fo : List Fd} (h : FoundIn W v fo) (hb : Below W.heap.size W W') : FoundIn W' v fo :=
  ⟨Kind.is_kept h.is hb, fun f hf => ⟨IsXs.kept (h.each f hf).1 hb, (h.each f hf).2⟩, h.kfit⟩


end Go.Proofs.Ythdakljoabbghaa

/-
  Rows of any kind, keys, terms, versions and finds that came in: what the sizes of their rows say, and their bulk.
-/
namespace Go.Proofs.Ythdakljoabbghaa
open Go.ChangeShapes Go.WideShapes Go.ChangeAt Go.RowKit Go.Lib Go.Deep Go.Joins

theorem Try.cellsWInt : Try.prog.cellsOf 3 = 1 := by kernel_rfl
theorem Try.cellsWStr : Try.prog.cellsOf 9 = 1 := by kernel_rfl
theorem Try.cellsWU64 : Try.prog.cellsOf 47 = 1 := by kernel_rfl
theorem Try.cellsWI64 : Try.prog.cellsOf 2 = 1 := by kernel_rfl
theorem Try.cellsWBool : Try.prog.cellsOf 4 = 1 := by kernel_rfl
theorem Try.cellsWFs : Try.prog.cellsOf 41 = 1 := by kernel_rfl
theorem Try.cellsWTs : Try.prog.cellsOf 32 = 1 := by kernel_rfl
theorem Try.cellsWFos : Try.prog.cellsOf 46 = 1 := by kernel_rfl
theorem Try.cellsWKey : Try.prog.cellsOf 27 = 2 := by kernel_rfl
theorem Try.cellsWVer : Try.prog.cellsOf 49 = 5 := by kernel_rfl
theorem Try.cellsWFd : Try.prog.cellsOf 51 = 7 := by kernel_rfl
theorem Try.cellsWTm : Try.prog.cellsOf 58 = 3 := by kernel_rfl
theorem Try.bytesWTm : Try.prog.bytesOf 58 = 40 := by kernel_rfl
theorem Try.bytesWFd : Try.prog.bytesOf 51 = 88 := by kernel_rfl

theorem bulkW_pos {H : Type} (d : DataW H) : 1 ≤ Rows.uptoBulk d := by
  cases d with
  | lit l => cases l <;> simp [Rows.uptoBulk]
  | nil => simp [Rows.uptoBulk]
  | ptr d => simp [Rows.uptoBulk]
  | slice elems spare => simp [Rows.uptoBulk]
  | agg parts => simp [Rows.uptoBulk]
  | iface t d => simp [Rows.uptoBulk]
  | map entries => simp [Rows.uptoBulk]
  | held h => simp [Rows.uptoBulk]
theorem bulkW_mem {H : Type} {d : DataW H} {l : List (DataW H)} (h : d ∈ l) : Rows.uptoBulk d ≤ Rows.uptoBulkAll l := by
  induction l with
  | nil => cases h
  | cons x r ih =>
    simp only [Rows.uptoBulkAll]
    rcases List.mem_cons.1 h with rfl | h
    · omega
    · have := ih h; omega
theorem bulkW_len {H : Type} (l : List (DataW H)) : l.length ≤ Rows.uptoBulkAll l := by
  induction l with
  | nil => simp [Rows.uptoBulkAll]
  | cons x r ih => have := bulkW_pos x; simp only [Rows.uptoBulkAll, List.length_cons]; omega

set_option maxRecDepth 100000 in
/-- A slice that came in (or lies inside of what came in): its elements, each well; its row's size; its bulk. -/
theorem open_rowZ {α : Type} [Inhabited α] (K : Kind α) {S : TypeId} {bytes : Nat} (hS : Try.prog.underlying S = some (.slice K.T)) (hk : Try.prog.cellsOf K.T = K.k) (hby : Try.prog.bytesOf K.T = bytes)
    {H : Type} (Ok : α → DataW H → Prop) {enc : TypeId × Value → H} {W : World} {fuel : Nat} {v : Value} {dd : DataW H} {p : List MemPlace}
    (each1 : ∀ (n : Nat) (cs : List Value) (x : DataW H × List MemPlace), DataW.trod enc Try.prog W 0 (fun _ => true) true n K.T cs = some x → (∀ n ∈ x.1.weights Try.prog K.T, n ≤ reachBytes) → ∃ b : α, cs = K.enc b ∧ Ok b x.1)
    (hf : DataW.trod enc Try.prog W 0 (fun _ => true) true fuel S [v] = some (dd, p)) (hZ : ∀ n ∈ dd.weights Try.prog S, n ≤ reachBytes) :
    ∃ q : List α, K.Is W v q ∧ (∀ x ∈ q, ∃ d, Rows.uptoBulk d ≤ Rows.uptoBulk dd ∧ Ok x d) ∧ q.length * bytes ≤ reachBytes ∧ q.length ≤ maxLen ∧ q.length ≤ Rows.uptoBulk dd := by
  rcases open_slice hS hf with ⟨hcs, _⟩ | ⟨a, len, cap, m, n, D, Pl, hcs, _, hl, hm, hmm, hdat, hall⟩
  · simp at hcs
    subst hcs
    exact ⟨[], K.is_nil W, fun x hx => by simp at hx, by simp, by simp, by simp⟩
  · simp at hcs
    subst hcs
    have hm' : m = cap := by simpa using hmm
    subst hm'
    rw [hk] at hall
    have hdd : dd = .slice ((List.range len).map D) ((List.range (m - len)).map fun j => D (len + j)) := congrArg Prod.fst hdat
    have hlb : len * bytes ≤ reachBytes := by
      have := hZ ((((List.range len).map D).length + ((List.range (m - len)).map fun j => D (len + j)).length) * Try.prog.bytesOf K.T) (by
        rw [hdd]
        simp only [DataW.weights, hS]
        exact List.mem_cons_self)
      rw [hby] at this
      simp only [List.length_map, List.length_range] at this
      exact Nat.le_trans (Nat.mul_le_mul_right _ (Nat.le_add_right _ _)) this
    have hbk : len ≤ Rows.uptoBulk dd := by
      rw [hdd]
      simp only [Rows.uptoBulk]
      have := bulkW_len ((List.range len).map D)
      simp only [List.length_map, List.length_range] at this
      omega
    have hbi : ∀ i, i < len → Rows.uptoBulk (D i) ≤ Rows.uptoBulk dd := fun i hi => by
      rw [hdd]
      simp only [Rows.uptoBulk]
      have := bulkW_mem (d := D i) (l := (List.range len).map D) (List.mem_map.2 ⟨i, List.mem_range.2 hi, rfl⟩)
      omega
    have each : ∀ i, i < len → ∃ t : α, (∀ j u, (K.enc t)[j]? = some u → W.cell? (a.add (i * K.k + j)) = some u) ∧ Ok t (D i) := by
      intro i hi
      obtain ⟨cs', h1, h2⟩ := hall i (by omega)
      obtain ⟨_, hlen, hcell⟩ := World.cells?_some h1
      have hDi : ∀ n ∈ (D i).weights Try.prog K.T, n ≤ reachBytes := fun n hn => by
        refine hZ n ?_
        rw [hdd]
        simp only [DataW.weights, hS]
        exact List.mem_cons_of_mem _ (List.mem_append.2 (Or.inl (weights_all hn (List.mem_map.2 ⟨i, List.mem_range.2 hi, rfl⟩))))
      obtain ⟨t, rfl, hok⟩ := each1 _ _ (D i, Pl i) h2 hDi
      refine ⟨t, fun j u hu => ?_, hok⟩
      have hj : j < K.k := by
        have := (List.getElem?_eq_some_iff.1 hu).1
        rwa [K.len] at this
      have := hcell j hj
      rw [add_add] at this
      rw [this]; exact hu
    by_cases h0 : len = 0
    · subst h0
      exact ⟨[], ⟨_, _, rfl, Or.inl rfl⟩, fun x hx => by simp at hx, by simp, by simp, by simp⟩
    · obtain ⟨f, hff⟩ := choose_lt each
      have h1 : 0 < (K.enc (f 0)).length := by rw [K.len]; exact K.pos
      have hc0 := (hff 0 (by omega)).1 0 _ (List.getElem?_eq_getElem h1)
      obtain ⟨b, off, spot⟩ := a
      have hspot : spot = none := by simpa [Addr.add] using World.cell?_spot hc0
      subst hspot
      have hlen : ((List.range len).map f).length = len := by simp
      refine ⟨(List.range len).map f, ⟨_, m, by rw [hlen], Or.inr ⟨b, off, rfl, fun i hi j u hu => ?_⟩⟩, fun x hx => ?_, by rw [hlen]; exact hlb, by rw [hlen]; omega, by rw [hlen]; exact hbk⟩
      · have hi0 : i < len := by simpa using hi
        have ef : ((List.range len).map f)[i]'hi = f i := by simp
        rw [ef] at hu
        have := (hff i hi0).1 j u hu
        rw [_root_.Go.Proofs.Ythdakljoabbghaa.addr_add] at this
        rw [Nat.add_assoc]
        exact this
      · obtain ⟨i, hi, rfl⟩ := List.mem_map.1 hx
        exact ⟨D i, hbi i (List.mem_range.1 hi), (hff i (List.mem_range.1 hi)).2⟩

section
variable {H : Type} {enc : TypeId × Value → H} {W : World}

set_option maxRecDepth 100000 in
/-- One key, from its two cells. -/
theorem open_kyW {n : Nat} {cs : List Value} {x : DataW H × List MemPlace} (h : DataW.trod enc Try.prog W 0 (fun _ => true) true n 27 cs = some x) :
    ∃ k : Ky, cs = [.string k.1, .string k.2] ∧ FitKy k := by
  obtain ⟨xs, k, _, _, hlen, hxl, hf⟩ := DataW.trod_struct Try.underlying27 h
  rw [Try.cellsWKey] at hlen
  match cs, hlen with
  | [v0, v1], _ =>
    match xs, hxl with
    | [y0, y1], _ =>
      have g0 := hf 0 _ rfl
      have g1 := hf 1 _ rfl
      simp [Try.cellsWStr] at g0 g1
      obtain ⟨a, ea, _, ha⟩ := DataW.trod_string Try.underlying9 g0
      obtain ⟨b, eb, _, hb⟩ := DataW.trod_string Try.underlying9 g1
      simp only [List.cons.injEq, and_true] at ea eb
      exact ⟨(a, b), by rw [ea, eb], ha, hb⟩

set_option maxRecDepth 100000 in
/-- A key that came in. -/
theorem open_keyW {b0 : Nat} {v : Value} {d : DataW H} {p : List MemPlace}
    (hv : Value.okWide Try.prog W .any b0 27 v) (h : DataW.Trod enc Try.prog W 0 (fun _ => true) true 27 v d p) : ∃ k : Ky, v = .agg #[.string k.1, .string k.2] ∧ FitKy k := by
  obtain ⟨cs, rfl, hsz⟩ := okWide_struct Try.underlying27 hv
  obtain ⟨fuel, hf⟩ := h
  obtain ⟨k, hk, hfit⟩ := open_kyW (x := (d, p)) hf
  exact ⟨k, by
    have : cs.toList = [.string k.1, .string k.2] := by simpa [Value.cells] using hk
    rw [show cs = #[.string k.1, .string k.2] from Array.ext' (by rw [this])], hfit⟩

set_option maxRecDepth 100000 in
/-- One term, from its three cells. -/
theorem open_termW {n : Nat} {cs : List Value} {x : DataW H × List MemPlace} (h : DataW.trod enc Try.prog W 0 (fun _ => true) true n 58 cs = some x) :
    ∃ t : Tm, cs = encM t ∧ t.1.size ≤ maxLen ∧ t.2.2.size ≤ maxLen ∧ -9223372036854775808 ≤ t.2.1 ∧ t.2.1 ≤ 9223372036854775807 := by
  obtain ⟨xs, k, _, _, hlen, hxl, hf⟩ := DataW.trod_struct Try.underlying58 h
  rw [Try.cellsWTm] at hlen
  match cs, hlen with
  | [v0, v1, v2], _ =>
    match xs, hxl with
    | [y0, y1, y2], _ =>
      have g0 := hf 0 _ rfl
      have g1 := hf 1 _ rfl
      have g2 := hf 2 _ rfl
      simp [Try.cellsWStr, Try.cellsWInt] at g0 g1 g2
      obtain ⟨a, ea, _, ha⟩ := DataW.trod_string Try.underlying9 g0
      obtain ⟨o, eo, _, ho⟩ := DataW.trod_int Try.underlying3 g1
      obtain ⟨b, eb, _, hb⟩ := DataW.trod_string Try.underlying9 g2
      simp only [List.cons.injEq, and_true] at ea eo eb
      have hw : -9223372036854775808 ≤ o ∧ o ≤ 9223372036854775807 := by
        have := ho
        simp [Lit.wf, IntKind.min, IntKind.max, IntKind.signed, IntKind.bits] at this
        omega
      exact ⟨(a, o, b), by rw [ea, eo, eb]; rfl, ha, hb, hw.1, hw.2⟩

theorem open_termsW {fuel : Nat} {v : Value} {dd : DataW H} {p : List MemPlace}
    (hf : DataW.trod enc Try.prog W 0 (fun _ => true) true fuel 32 [v] = some (dd, p)) (hZ : ∀ n ∈ dd.weights Try.prog 32, n ≤ reachBytes) : ∃ q : List Tm, KM.Is W v q ∧ FitM q := by
  obtain ⟨q, h1, h2, _, h4, _⟩ := open_rowZ KM Try.underlying32 Try.cellsWTm Try.bytesWTm (fun t _ => t.1.size ≤ maxLen ∧ t.2.2.size ≤ maxLen ∧ -9223372036854775808 ≤ t.2.1 ∧ t.2.1 ≤ 9223372036854775807) (fun n cs x h _ => open_termW h) hf hZ
  exact ⟨q, h1, h4, fun x hx => (h2 x hx).choose_spec.2⟩

set_option maxRecDepth 100000 in
/-- One version, from its five cells. -/
theorem open_verW {n : Nat} {cs : List Value} {x : DataW H × List MemPlace} (h : DataW.trod enc Try.prog W 0 (fun _ => true) true n 49 cs = some x) (hZ : ∀ n ∈ x.1.weights Try.prog 49, n ≤ reachBytes) :
    ∃ b : Vx, cs = encVx b ∧ b.at W ∧ FitX b.o ∧ CopyX b.o := by
  obtain ⟨xs, k, _, hx, hlen, hxl, hf⟩ := DataW.trod_struct Try.underlying49 h
  rw [Try.cellsWVer] at hlen
  match cs, hlen with
  | [v0, v1, v2, v3, v4], _ =>
    match xs, hxl with
    | [y0, y1, y2, y3, y4], _ =>
      have g0 := hf 0 _ rfl
      have g1 := hf 1 _ rfl
      have g2 := hf 2 _ rfl
      have g3 := hf 3 _ rfl
      have g4 := hf 4 _ rfl
      simp [Try.cellsWInt, Try.cellsWU64, Try.cellsWI64, Try.cellsWBool, Try.cellsWFs] at g0 g1 g2 g3 g4
      obtain ⟨a, ea, _, _⟩ := DataW.trod_int Try.underlying3 g0
      obtain ⟨s, es, _, _⟩ := DataW.trod_int Try.underlying47 g1
      obtain ⟨t, et, _, _⟩ := DataW.trod_int Try.underlying2 g2
      obtain ⟨l, el, _⟩ := DataW.trod_bool Try.underlying4 g3
      have hz4 : ∀ n ∈ y4.1.weights Try.prog 41, n ≤ reachBytes := fun n hn => hZ n (by
        rw [hx]
        simp only [List.map_cons, List.map_nil, DataW.weights, Try.underlying49]
        exact List.mem_append.2 (Or.inr (List.mem_append.2 (Or.inr (List.mem_append.2 (Or.inr (List.mem_append.2 (Or.inr (List.mem_append.2 (Or.inl hn))))))))))
      obtain ⟨d, hd, hfd, hdc⟩ := open_fldsZ (dd := y4.1) (p := y4.2) g4 hz4
      simp only [List.cons.injEq, and_true] at ea es et el
      subst ea es et el
      have hsl := hd
      obtain ⟨p, cap, rfl, _⟩ := hsl
      exact ⟨⟨a, s, t, l, p, cap, d⟩, rfl, hd, hfd, hdc⟩

set_option maxRecDepth 100000 in
/-- One find, from its seven cells. -/
theorem open_fdW {n : Nat} {cs : List Value} {x : DataW H × List MemPlace} (h : DataW.trod enc Try.prog W 0 (fun _ => true) true n 51 cs = some x) (hZ : ∀ n ∈ x.1.weights Try.prog 51, n ≤ reachBytes) :
    ∃ b : Fd, cs = encFd b ∧ (b.v.at W ∧ FitX b.v.o ∧ CopyX b.v.o) ∧ FitKy (b.a, b.b) := by
  obtain ⟨xs, k, _, hx, hlen, hxl, hf⟩ := DataW.trod_struct Try.underlying51 h
  rw [Try.cellsWFd] at hlen
  match cs, hlen with
  | [v0, v1, v2, v3, v4, v5, v6], _ =>
    match xs, hxl with
    | [y0, y1], _ =>
      have g0 := hf 0 _ rfl
      have g1 := hf 1 _ rfl
      simp [Try.cellsWKey, Try.cellsWVer] at g0 g1
      obtain ⟨k, ek, hk⟩ := open_kyW g0
      have hz1 : ∀ n ∈ y1.1.weights Try.prog 49, n ≤ reachBytes := fun n hn => hZ n (by
        rw [hx]
        simp only [List.map_cons, List.map_nil, DataW.weights, Try.underlying51]
        exact List.mem_append.2 (Or.inr (List.mem_append.2 (Or.inl hn))))
      obtain ⟨b, eb, hb⟩ := open_verW (x := y1) g1 hz1
      refine ⟨⟨k.1, k.2, b⟩, ?_, hb, hk⟩
      simp only [List.cons.injEq, and_true] at ek
      show [v0, v1, v2, v3, v4, v5, v6] = .string k.1 :: .string k.2 :: encVx b
      rw [← eb, ek.1, ek.2]

set_option maxRecDepth 100000 in
theorem open_fdsW {fuel : Nat} {v : Value} {dd : DataW H} {p : List MemPlace}
    (hf : DataW.trod enc Try.prog W 0 (fun _ => true) true fuel 46 [v] = some (dd, p)) (hZ : ∀ n ∈ dd.weights Try.prog 46, n ≤ reachBytes) :
    ∃ fo : List Fd, FoundIn W v fo ∧ (∀ f ∈ fo, FitKy (f.a, f.b)) ∧ fo.length ≤ Rows.uptoBulk dd := by
  obtain ⟨q, h1, h2, _, _, h5⟩ := open_rowZ KFd Try.underlying46 Try.cellsWFd Try.bytesWFd (fun b _ => (b.v.at W ∧ FitX b.v.o ∧ CopyX b.v.o) ∧ FitKy (b.a, b.b)) (fun n cs x h hz => open_fdW h hz) hf hZ
  exact ⟨q, ⟨h1, fun f hf => (h2 f hf).choose_spec.2.1, fun f hf => (h2 f hf).choose_spec.2.2⟩, fun f hf => (h2 f hf).choose_spec.2.2, h5⟩

set_option maxRecDepth 100000 in
theorem open_foundW {b0 : Nat} {v : Value} {dd : DataW H} {p : List MemPlace}
    (hv : Value.okWide Try.prog W .any b0 46 v) (h : DataW.Trod enc Try.prog W 0 (fun _ => true) true 46 v dd p) (hZ : ∀ n ∈ dd.weights Try.prog 46, n ≤ reachBytes) :
    ∃ fo : List Fd, FoundIn W v fo ∧ (∀ f ∈ fo, FitKy (f.a, f.b)) ∧ fo.length ≤ Rows.uptoBulk dd := by
  obtain ⟨a0, len, cap, rfl⟩ := okWide_slice Try.underlying46 hv
  obtain ⟨fuel, hf⟩ := h
  exact open_fdsW (dd := dd) (p := p) (by simpa [Value.cells] using hf) hZ
end

end Go.Proofs.Ythdakljoabbghaa

/-
  Marks, ranges, changes and keys that came in (stage 12): what the sizes of their rows say, and their bulk.
-/
namespace Go.Proofs.Ythdakljoabbghaa
open Go.ChangeShapes Go.WideShapes Go.ChangeAt Go.RowKit Go.Lib Go.Deep Go.Joins

theorem Try.cellsMRg : Try.prog.cellsOf 34 = 2 := by kernel_rfl
theorem Try.cellsMCh : Try.prog.cellsOf 43 = 6 := by kernel_rfl
theorem Try.cellsMMk : Try.prog.cellsOf 25 = 2 := by kernel_rfl
theorem Try.cellsMKs : Try.prog.cellsOf 22 = 1 := by kernel_rfl
theorem Try.cellsMRs : Try.prog.cellsOf 23 = 1 := by kernel_rfl
theorem Try.bytesMKy : Try.prog.bytesOf 27 = 32 := by kernel_rfl
theorem Try.bytesMRg : Try.prog.bytesOf 34 = 40 := by kernel_rfl
theorem Try.bytesMCh : Try.prog.bytesOf 43 = 96 := by kernel_rfl

section
variable {H : Type} {enc : TypeId × Value → H} {W : World}

/-- A slice's length is within its room. -/
theorem open_cap {S e : TypeId} (hS : Try.prog.underlying S = some (.slice e)) {fuel : Nat} {p : Option Addr} {n cap : Nat} {x : DataW H × List MemPlace} (h : DataW.trod enc Try.prog W 0 (fun _ => true) true fuel S [.slice p n cap] = some x) : n ≤ cap := by
  rcases open_slice hS h with ⟨hcs, _⟩ | ⟨a, len, c, m, k, D, Pl, hcs, _, hl, _⟩
  · simp at hcs
    omega
  · simp at hcs
    omega

set_option maxRecDepth 100000 in
/-- Keys. -/
theorem open_ksM {fuel : Nat} {v : Value} {dd : DataW H} {p : List MemPlace}
    (hf : DataW.trod enc Try.prog W 0 (fun _ => true) true fuel 22 [v] = some (dd, p)) (hZ : ∀ n ∈ dd.weights Try.prog 22, n ≤ reachBytes) :
    ∃ q : List Ky, KK.Is W v q ∧ (∀ k ∈ q, FitKy12 k) ∧ q.length ≤ Rows.uptoBulk dd ∧ q.length ≤ 4398046510976 := by
  have hrb : reachBytes = 140737488351232 := rfl
  obtain ⟨q, h1, h2, h3, _, h5⟩ := open_rowZ KK Try.underlying22 Try.cellsWKey Try.bytesMKy (fun k _ => FitKy12 k) (fun n cs x h _ => by
    obtain ⟨k, hk, hf⟩ := open_kyW h
    exact ⟨k, hk, hf⟩) hf hZ
  exact ⟨q, h1, fun k hk => (h2 k hk).choose_spec.2, h5, by omega⟩

set_option maxRecDepth 100000 in
theorem open_termsT {fuel : Nat} {v : Value} {dd : DataW H} {p : List MemPlace}
    (hf : DataW.trod enc Try.prog W 0 (fun _ => true) true fuel 32 [v] = some (dd, p)) (hZ : ∀ n ∈ dd.weights Try.prog 32, n ≤ reachBytes) : ∃ q : List Tm, KM.Is W v q ∧ FitP q ∧ q.length ≤ Rows.uptoBulk dd := by
  have hrb : reachBytes = 140737488351232 := rfl
  obtain ⟨q, h1, h2, h3, h4, h5⟩ := open_rowZ KM Try.underlying32 Try.cellsWTm Try.bytesWTm (fun t _ => t.1.size ≤ maxLen ∧ t.2.2.size ≤ maxLen ∧ -9223372036854775808 ≤ t.2.1 ∧ t.2.1 ≤ 9223372036854775807) (fun n cs x h _ => open_termW h) hf hZ
  exact ⟨q, h1, ⟨⟨h4, fun x hx => (h2 x hx).choose_spec.2⟩, by omega⟩, h5⟩

set_option maxRecDepth 100000 in
/-- One range, from its two cells. -/
theorem open_rgM {n : Nat} {cs : List Value} {x : DataW H × List MemPlace} (h : DataW.trod enc Try.prog W 0 (fun _ => true) true n 34 cs = some x) (hZ : ∀ n ∈ x.1.weights Try.prog 34, n ≤ reachBytes) :
    ∃ b : Rx, cs = encRx b ∧ b.at W := by
  obtain ⟨xs, k, _, hx, hlen, hxl, hf⟩ := DataW.trod_struct Try.underlying34 h
  rw [Try.cellsMRg] at hlen
  match cs, hlen with
  | [v0, v1], _ =>
    match xs, hxl with
    | [y0, y1], _ =>
      have g0 := hf 0 _ rfl
      have g1 := hf 1 _ rfl
      simp [Try.cellsWStr, Try.cellsWTs] at g0 g1
      obtain ⟨a, ea, _, _⟩ := DataW.trod_string Try.underlying9 g0
      have hz1 : ∀ n ∈ y1.1.weights Try.prog 32, n ≤ reachBytes := fun n hn => hZ n (by
        rw [hx]
        simp only [List.map_cons, List.map_nil, DataW.weights, Try.underlying34]
        exact List.mem_append.2 (Or.inr (List.mem_append.2 (Or.inl hn))))
      obtain ⟨t, ht, hft, _⟩ := open_termsT (dd := y1.1) (p := y1.2) g1 hz1
      simp only [List.cons.injEq, and_true] at ea
      obtain ⟨q, qc, rfl, _⟩ := id ht
      exact ⟨⟨a, q, qc, t⟩, by rw [ea]; rfl, ht, hft⟩

set_option maxRecDepth 100000 in
theorem open_rsM {fuel : Nat} {v : Value} {dd : DataW H} {p : List MemPlace}
    (hf : DataW.trod enc Try.prog W 0 (fun _ => true) true fuel 23 [v] = some (dd, p)) (hZ : ∀ n ∈ dd.weights Try.prog 23, n ≤ reachBytes) :
    ∃ q : List Rx, KRx.Is W v q ∧ (∀ r ∈ q, r.at W) ∧ q.length ≤ Rows.uptoBulk dd ∧ q.length ≤ 3518437208780 := by
  have hrb : reachBytes = 140737488351232 := rfl
  obtain ⟨q, h1, h2, h3, _, h5⟩ := open_rowZ KRx Try.underlying23 Try.cellsMRg Try.bytesMRg (fun r _ => r.at W) (fun n cs x h hz => open_rgM h hz) hf hZ
  exact ⟨q, h1, fun r hr => (h2 r hr).choose_spec.2, h5, by omega⟩

set_option maxRecDepth 100000 in
/-- Marks that came in. -/
theorem open_marksM {b0 : Nat} {v : Value} {dd : DataW H} {p : List MemPlace} (hv : Value.okWide Try.prog W .any b0 25 v) (h : DataW.Trod enc Try.prog W 0 (fun _ => true) true 25 v dd p) (hZ : ∀ n ∈ dd.weights Try.prog 25, n ≤ reachBytes) :
    ∃ m : Mx, v = .agg (encMx m).toArray ∧ MIn W m ∧ (∀ k ∈ m.ks, FitKy12 k) ∧ m.ks.length ≤ Rows.uptoBulk dd ∧ m.rs.length ≤ Rows.uptoBulk dd ∧ LenM m := by
  obtain ⟨cs, rfl, hsz⟩ := okWide_struct Try.underlying25 hv
  obtain ⟨fuel, hf0⟩ := h
  have hf1 : DataW.trod enc Try.prog W 0 (fun _ => true) true fuel 25 cs.toList = some (dd, p) := by simpa [Value.cells] using hf0
  obtain ⟨xs, k, _, hx, hlen, hxl, hf⟩ := DataW.trod_struct Try.underlying25 hf1
  rw [Try.cellsMMk] at hlen
  obtain ⟨v0, v1, hcs⟩ : ∃ v0 v1, cs.toList = [v0, v1] := by
    match hc : cs.toList, hlen with
    | [v0, v1], _ => exact ⟨v0, v1, rfl⟩
  rw [hcs] at hf
  match xs, hxl with
  | [y0, y1], _ =>
    have g0 := hf 0 _ rfl
    have g1 := hf 1 _ rfl
    simp [Try.cellsMKs, Try.cellsMRs] at g0 g1
    have hdd : dd = .agg ([y0, y1].map Prod.fst) := congrArg Prod.fst hx
    have hz0 : ∀ n ∈ y0.1.weights Try.prog 22, n ≤ reachBytes := fun n hn => hZ n (by
      rw [hdd]
      simp only [List.map_cons, List.map_nil, DataW.weights, Try.underlying25]
      exact List.mem_append.2 (Or.inl hn))
    have hz1 : ∀ n ∈ y1.1.weights Try.prog 23, n ≤ reachBytes := fun n hn => hZ n (by
      rw [hdd]
      simp only [List.map_cons, List.map_nil, DataW.weights, Try.underlying25]
      exact List.mem_append.2 (Or.inr (List.mem_append.2 (Or.inl hn))))
    obtain ⟨ks, hk1, hk2, hk3, hk4⟩ := open_ksM (dd := y0.1) (p := y0.2) g0 hz0
    obtain ⟨rs, hr1, hr2, hr3, hr4⟩ := open_rsM (dd := y1.1) (p := y1.2) g1 hz1
    have hb0 : Rows.uptoBulk y0.1 ≤ Rows.uptoBulk dd := by
      rw [hdd]
      simp only [Rows.uptoBulk]
      have := bulkW_mem (d := y0.1) (l := [y0, y1].map Prod.fst) (by simp)
      simp only [List.map_cons, List.map_nil] at this ⊢
      omega
    have hb1 : Rows.uptoBulk y1.1 ≤ Rows.uptoBulk dd := by
      rw [hdd]
      simp only [Rows.uptoBulk]
      have := bulkW_mem (d := y1.1) (l := [y0, y1].map Prod.fst) (by simp)
      simp only [List.map_cons, List.map_nil] at this ⊢
      omega
    obtain ⟨kp, kc, rfl, _⟩ := id hk1
    obtain ⟨rp, rc, rfl, _⟩ := id hr1
    refine ⟨⟨kp, kc, ks, rp, rc, rs⟩, ?_, ⟨hk1, hr1, hr2⟩, hk2, Nat.le_trans hk3 hb0, Nat.le_trans hr3 hb1, by show ks.length < _; omega, by show rs.length < _; omega⟩
    have : cs = #[.slice kp ks.length kc, .slice rp rs.length rc] := Array.ext' (by rw [hcs])
    rw [this]
    rfl

set_option maxRecDepth 100000 in
/-- One change, from its six cells. -/
theorem open_chM {n : Nat} {cs : List Value} {x : DataW H × List MemPlace} (h : DataW.trod enc Try.prog W 0 (fun _ => true) true n 43 cs = some x) (hZ : ∀ n ∈ x.1.weights Try.prog 43, n ≤ reachBytes) :
    ∃ b : Cx, cs = encCx b ∧ CIn W b ∧ FitKy12 (b.a, b.b) := by
  obtain ⟨xs, k, _, hx, hlen, hxl, hf⟩ := DataW.trod_struct Try.underlying43 h
  rw [Try.cellsMCh] at hlen
  match cs, hlen with
  | [v0, v1, v2, v3, v4, v5], _ =>
    match xs, hxl with
    | [y0, y1, y2, y3, y4], _ =>
      have g0 := hf 0 _ rfl
      have g1 := hf 1 _ rfl
      have g2 := hf 2 _ rfl
      have g3 := hf 3 _ rfl
      have g4 := hf 4 _ rfl
      simp [Try.cellsWKey, Try.cellsWBool, Try.cellsWFs] at g0 g1 g2 g3 g4
      obtain ⟨k, ek, hk⟩ := open_kyW g0
      obtain ⟨l1, e1, _⟩ := DataW.trod_bool Try.underlying4 g1
      obtain ⟨l3, e3, _⟩ := DataW.trod_bool Try.underlying4 g3
      have hz2 : ∀ n ∈ y2.1.weights Try.prog 41, n ≤ reachBytes := fun n hn => hZ n (by
        rw [hx]
        simp only [List.map_cons, List.map_nil, DataW.weights, Try.underlying43]
        exact List.mem_append.2 (Or.inr (List.mem_append.2 (Or.inr (List.mem_append.2 (Or.inl hn))))))
      have hz4 : ∀ n ∈ y4.1.weights Try.prog 41, n ≤ reachBytes := fun n hn => hZ n (by
        rw [hx]
        simp only [List.map_cons, List.map_nil, DataW.weights, Try.underlying43]
        exact List.mem_append.2 (Or.inr (List.mem_append.2 (Or.inr (List.mem_append.2 (Or.inr (List.mem_append.2 (Or.inr (List.mem_append.2 (Or.inl hn))))))))))
      obtain ⟨d2, hd2, hf2, hc2⟩ := open_fldsZ (dd := y2.1) (p := y2.2) g2 hz2
      obtain ⟨d4, hd4, hf4, hc4⟩ := open_fldsZ (dd := y4.1) (p := y4.2) g4 hz4
      simp only [List.cons.injEq, and_true] at ek e1 e3
      obtain ⟨p2, c2, rfl, _⟩ := id hd2
      obtain ⟨p4, c4, rfl, _⟩ := id hd4
      refine ⟨⟨k.1, k.2, l1, p2, c2, d2, l3, p4, c4, d4⟩, ?_, ⟨hd2, hf2, hd4, hf4, hc2, hc4⟩, hk⟩
      rw [ek.1, ek.2, e1, e3]
      rfl

set_option maxRecDepth 100000 in
theorem open_changesM {b0 : Nat} {v : Value} {dd : DataW H} {p : List MemPlace} (hv : Value.okWide Try.prog W .any b0 37 v) (h : DataW.Trod enc Try.prog W 0 (fun _ => true) true 37 v dd p) (hZ : ∀ n ∈ dd.weights Try.prog 37, n ≤ reachBytes) :
    ∃ (a : Option Addr) (cap : Nat) (l : List Cx), v = .slice a l.length cap ∧ ChgIn W (.slice a l.length cap) l ∧ l.length ≤ cap ∧ (∀ c ∈ l, FitKy12 (c.a, c.b)) ∧ l.length ≤ Rows.uptoBulk dd ∧ l.length < 1500000000000 := by
  have hrb := reachBytes_lt
  obtain ⟨a0, len, cap, rfl⟩ := okWide_slice Try.underlying37 hv
  obtain ⟨fuel, hf⟩ := h
  have hf' : DataW.trod enc Try.prog W 0 (fun _ => true) true fuel 37 [.slice a0 len cap] = some (dd, p) := by simpa [Value.cells] using hf
  obtain ⟨q, h1, h2, h3, _, h5⟩ := open_rowZ KCx Try.underlying37 Try.cellsMCh Try.bytesMCh (fun c _ => CIn W c ∧ FitKy12 (c.a, c.b)) (fun n cs x h hz => open_chM h hz) hf' hZ
  obtain ⟨p', c', he, _⟩ := id h1
  injection he with e1 e2 e3
  subst e1 e3
  subst e2
  exact ⟨_, _, q, rfl, ⟨h1, fun c hc => (h2 c hc).choose_spec.2.1⟩, open_cap Try.underlying37 hf', fun c hc => (h2 c hc).choose_spec.2.2, h5, by omega⟩

set_option maxRecDepth 100000 in
theorem open_rangeM {b0 : Nat} {v : Value} {dd : DataW H} {p : List MemPlace} (hv : Value.okWide Try.prog W .any b0 34 v) (h : DataW.Trod enc Try.prog W 0 (fun _ => true) true 34 v dd p) (hZ : ∀ n ∈ dd.weights Try.prog 34, n ≤ reachBytes) :
    ∃ r : Rx, v = .agg (encRx r).toArray ∧ r.at W := by
  obtain ⟨cs, rfl, hsz⟩ := okWide_struct Try.underlying34 hv
  obtain ⟨fuel, hf0⟩ := h
  obtain ⟨r, hr, hat⟩ := open_rgM (x := (dd, p)) (cs := cs.toList) (by simpa [Value.cells] using hf0) hZ
  exact ⟨r, by rw [show cs = (encRx r).toArray from Array.ext' (by rw [hr])], hat⟩
set_option maxRecDepth 100000 in
theorem open_changeM {b0 : Nat} {v : Value} {dd : DataW H} {p : List MemPlace} (hv : Value.okWide Try.prog W .any b0 43 v) (h : DataW.Trod enc Try.prog W 0 (fun _ => true) true 43 v dd p) (hZ : ∀ n ∈ dd.weights Try.prog 43, n ≤ reachBytes) :
    ∃ c : Cx, v = .agg (encCx c).toArray ∧ CIn W c := by
  obtain ⟨cs, rfl, hsz⟩ := okWide_struct Try.underlying43 hv
  obtain ⟨fuel, hf0⟩ := h
  obtain ⟨c, hc, hin, _⟩ := open_chM (x := (dd, p)) (cs := cs.toList) (by simpa [Value.cells] using hf0) hZ
  exact ⟨c, by rw [show cs = (encCx c).toArray from Array.ext' (by rw [hc])], hin⟩
set_option maxRecDepth 100000 in
theorem open_keysM {b0 : Nat} {v : Value} {dd : DataW H} {p : List MemPlace} (hv : Value.okWide Try.prog W .any b0 22 v) (h : DataW.Trod enc Try.prog W 0 (fun _ => true) true 22 v dd p) (hZ : ∀ n ∈ dd.weights Try.prog 22, n ≤ reachBytes) :
    ∃ q : List Ky, KK.Is W v q ∧ (∀ k ∈ q, FitKy12 k) ∧ q.length ≤ Rows.uptoBulk dd ∧ q.length ≤ 4398046510976 := by
  obtain ⟨a0, len, cap, rfl⟩ := okWide_slice Try.underlying22 hv
  obtain ⟨fuel, hf⟩ := h
  exact open_ksM (dd := dd) (p := p) (by simpa [Value.cells] using hf) hZ
set_option maxRecDepth 100000 in
theorem open_rangesM {b0 : Nat} {v : Value} {dd : DataW H} {p : List MemPlace} (hv : Value.okWide Try.prog W .any b0 23 v) (h : DataW.Trod enc Try.prog W 0 (fun _ => true) true 23 v dd p) (hZ : ∀ n ∈ dd.weights Try.prog 23, n ≤ reachBytes) :
    ∃ q : List Rx, KRx.Is W v q ∧ (∀ r ∈ q, r.at W) ∧ q.length ≤ Rows.uptoBulk dd ∧ q.length ≤ 3518437208780 := by
  obtain ⟨a0, len, cap, rfl⟩ := okWide_slice Try.underlying23 hv
  obtain ⟨fuel, hf⟩ := h
  exact open_rsM (dd := dd) (p := p) (by simpa [Value.cells] using hf) hZ
set_option maxRecDepth 100000 in
theorem open_intM {b0 : Nat} {v : Value} {d : DataW H} {p : List MemPlace} (hv : Value.okWide Try.prog W .any b0 3 v) (h : DataW.Trod enc Try.prog W 0 (fun _ => true) true 3 v d p) : ∃ t, v = .int .i64 t ∧ -9223372036854775808 ≤ t ∧ t ≤ 9223372036854775807 := by
  obtain ⟨n, rfl, _, _, hw⟩ := open_int Try.underlying3 hv h
  have hws : -9223372036854775808 ≤ n ∧ n ≤ 9223372036854775807 := by
    simp [Lit.wf, IntKind.min, IntKind.max, IntKind.signed, IntKind.bits] at hw
    omega
  exact ⟨n, rfl, hws⟩
set_option maxRecDepth 100000 in
theorem open_fdsM {b0 : Nat} {v : Value} {dd : DataW H} {p : List MemPlace} (hv : Value.okWide Try.prog W .any b0 46 v) (h : DataW.Trod enc Try.prog W 0 (fun _ => true) true 46 v dd p) (hZ : ∀ n ∈ dd.weights Try.prog 46, n ≤ reachBytes) :
    ∃ fo : List Fd, KFd.Is W v fo ∧ (∀ f ∈ fo, f.v.at W ∧ FitX f.v.o) ∧ fo.length ≤ 1599289640355 := by
  have hrb : reachBytes = 140737488351232 := rfl
  obtain ⟨a0, len, cap, rfl⟩ := okWide_slice Try.underlying46 hv
  obtain ⟨fuel, hf⟩ := h
  obtain ⟨q, h1, h2, h3, _, _⟩ := open_rowZ KFd Try.underlying46 Try.cellsWFd Try.bytesWFd (fun b _ => (b.v.at W ∧ FitX b.v.o ∧ CopyX b.v.o) ∧ FitKy (b.a, b.b)) (fun n cs x h hz => open_fdW h hz) (dd := dd) (p := p) (by simpa [Value.cells] using hf) hZ
  exact ⟨q, h1, fun f hf => ⟨(h2 f hf).choose_spec.2.1.1, (h2 f hf).choose_spec.2.1.2.1⟩, by omega⟩
end

end Go.Proofs.Ythdakljoabbghaa
