/-
  Texts of this claim, one behind the other: Cob Coz Fdi Ozw Lob.
-/
import Derived.Test.YticfpkodoghnnaaGreatPg
import Derived.Test.YticfpkodoghnnaaGreatRows
import Derived.Test.YticfpkodoghnnaaGreatPb
import Derived.MakeChecks
import Derived.ProofKit
import Derived.OpenShut
import Derived.Lay
import Derived.Stop.Joined
import Derived.SliceStrings
import Derived.Deep.SlicePairs
import Derived.Lib.LaidU8
import Derived.SizedLaws
import Derived.ChangeSlices
import Derived.JoinedCond
import Derived.Lib.SmallJoins
import Derived.ShutString
import Derived.Below
import Derived.Deep.DeepHandedRow
import Derived.Test.YticfpkodoghnnaaGreatPd
import Derived.Test.YticfpkodoghnnaaGreatPa
import Derived.Test.YticfpkodoghnnaaGreatPc
import Derived.Test.YticfpkodoghnnaaGreatPf
/-
  What each row's proof opens its arguments by: fields, and their bulk.
-/
namespace Go.Proofs.YticfpkodoghnnaaGreat
open Go.ChangeShapes Go.WideShapes Go.ChangeAt Go.RowKit Go.Lib Go.Deep Go.Joins


theorem Tryz.own : ownKnob Tryz.prog.godebug = none := by kernel_rfl

theorem Tryz.laidOut : laidOutB Tryz.prog = true := by kernel_rfl

theorem Tryz.cellsFld : Tryz.prog.cellsOf 107 = 2 := by kernel_rfl

theorem Tryz.cellsStr : Tryz.prog.cellsOf 9 = 1 := by kernel_rfl

theorem Tryz.cellsStrs : Tryz.prog.cellsOf 105 = 1 := by kernel_rfl

/-- A slice of texts that came in. -/
theorem open_txt {H : Type} {enc : TypeId × Value → H} {W : World} {f : Nat} {v : Value} {x : DataW H × List MemPlace} (h : DataW.trod enc Tryz.prog W 0 (fun _ => true) true f 105 [v] = some x) :
    ∃ p cap, ∃ ts : List ByteArray, v = .slice p ts.length cap ∧ TxtAt W p ts ∧ FitT ts := by
  rcases open_strings Tryz.underlying105 Tryz.underlying9 Tryz.cellsStr h with ⟨hcs, _⟩ | ⟨a, l, c, ss, hcs, _, hl, hm, hz, _, hcell, hws⟩
  · simp at hcs
    exact ⟨none, 0, [], hcs, Or.inl rfl, by unfold maxLen; simp, fun t ht => by simp at ht⟩
  · simp at hcs
    have hz' : ss.length = c := by simpa using hz
    have hlen : (ss.take l).length = l := by rw [List.length_take]; omega
    refine ⟨some a, c, ss.take l, by rw [hlen]; exact hcs, ?_, by omega, fun t ht => hws t (List.mem_of_mem_take ht)⟩
    by_cases h0 : l = 0
    · subst h0; exact Or.inl rfl
    · right
      have hc0 := hcell 0 (by omega)
      obtain ⟨b, off, spot⟩ := a
      have hspot : spot = none := by simpa [Addr.add] using World.cell?_spot hc0
      subst hspot
      refine ⟨b, off, rfl, fun i hi => ?_⟩
      rw [hlen] at hi
      have := hcell i (by omega)
      rw [addr_add] at this
      rw [this, List.getElem_take, List.getD_eq_getElem?_getD, List.getElem?_eq_getElem (by omega)]
      rfl

set_option maxRecDepth 100000 in
/-- A slice of fields that came in. -/
theorem open_fields {H : Type} {enc : TypeId × Value → H} {W : World} {b0 : Nat} {v : Value} {dd : DataW H} {p : List MemPlace}
    (hv : Value.okWide Tryz.prog W .any b0 37 v) (h : DataW.Trod enc Tryz.prog W 0 (fun _ => true) true 37 v dd p) : ∃ d : List Fx, IsXs W v d ∧ FitX d := by
  obtain ⟨a0, len, cap, rfl⟩ := okWide_slice Tryz.underlying37 hv
  obtain ⟨fuel, hf⟩ := h
  rcases open_slice_pairs Tryz.underlying37 Tryz.underlying107 Tryz.cellsFld rfl rfl Tryz.cellsStr Tryz.cellsStrs hf with ⟨hcs, _⟩ | ⟨a, l, c, m, n, V0, V1, D0, D1, P0, P1, hcs, _, hl, hm, hmm, hdat, hall⟩
  · simp [Value.cells] at hcs
    obtain ⟨rfl, rfl, rfl⟩ := hcs
    exact ⟨[], ⟨none, 0, rfl, Or.inl rfl, fun x hx => by simp at hx⟩, by unfold maxLen; simp, fun x hx => by simp at hx⟩
  · simp [Value.cells] at hcs
    obtain ⟨rfl, rfl, rfl⟩ := hcs
    have hm' : m = cap := by simpa using hmm
    subst hm'
    have each : ∀ i, i < m → ∃ x : Fx, V0 i = .string x.name ∧ V1 i = x.sl ∧ TxtAt W x.p x.txt ∧ FitF x.fld := by
      intro i hi
      obtain ⟨_, _, h3, h4⟩ := hall i hi
      obtain ⟨s, e0, _, hs⟩ := DataW.trod_string Tryz.underlying9 h3
      simp only [List.cons.injEq, and_true] at e0
      obtain ⟨q, cc, ts, e1, ht, hft⟩ := open_txt h4
      exact ⟨⟨s, q, cc, ts⟩, e0, e1, ht, hs, hft⟩
    by_cases h0 : len = 0
    · subst h0
      exact ⟨[], ⟨_, _, rfl, Or.inl rfl, fun x hx => by simp at hx⟩, by unfold maxLen; simp, fun x hx => by simp at hx⟩
    · have hc0 := (hall 0 (by omega)).1
      obtain ⟨b, off, spot⟩ := a
      have hspot : spot = none := by simpa [Addr.add] using World.cell?_spot hc0
      subst hspot
      let f : Nat → Fx := fun i => if h : i < m then (each i h).choose else default
      have fs : ∀ i (h : i < m), V0 i = .string (f i).name ∧ V1 i = (f i).sl ∧ TxtAt W (f i).p (f i).txt ∧ FitF (f i).fld := fun i h => by
        have e : f i = (each i h).choose := dif_pos h
        rw [e]
        exact (each i h).choose_spec
      have hlen : ((List.range len).map f).length = len := by simp
      refine ⟨(List.range len).map f, ⟨_, m, by rw [hlen], Or.inr ⟨b, off, rfl, fun i hi => ?_⟩, fun x hx => ?_⟩, by rw [hlen]; omega, fun x hx => ?_⟩
      · have hi0 : i < len := by simpa using hi
        obtain ⟨h1, h2, _, _⟩ := hall i (by omega)
        obtain ⟨g1, g2, _⟩ := fs i (by omega)
        rw [addr_add] at h1 h2
        have ef : ((List.range len).map f)[i]'hi = f i := by simp
        rw [ef, h1, ← g1]
        refine ⟨rfl, ?_⟩
        rw [Nat.add_assoc, h2, g2]
      · obtain ⟨i, hi, rfl⟩ := List.mem_map.1 hx
        exact (fs i (by have := List.mem_range.1 hi; omega)).2.2.1
      · obtain ⟨i, hi, rfl⟩ := List.mem_map.1 hx
        exact (fs i (by have := List.mem_range.1 hi; omega)).2.2.2

theorem bulk_pos {H : Type} (d : DataW H) : 1 ≤ Rows.uptoBulk d := by
  cases d with
  | lit l => cases l <;> simp [Rows.uptoBulk]
  | nil => simp [Rows.uptoBulk]
  | ptr d => simp [Rows.uptoBulk]
  | slice elems spare => simp [Rows.uptoBulk]
  | agg parts => simp [Rows.uptoBulk]
  | iface t d => simp [Rows.uptoBulk]
  | map entries => simp [Rows.uptoBulk]
  | held h => simp [Rows.uptoBulk]

theorem bulk_sum {H : Type} (l : List (DataW H)) : Rows.uptoBulkAll l = (l.map Rows.uptoBulk).sum := by
  induction l with
  | nil => simp [Rows.uptoBulkAll]
  | cons x r ih => simp [Rows.uptoBulkAll, ih]

theorem bulk_mem {H : Type} {d : DataW H} {l : List (DataW H)} (h : d ∈ l) : Rows.uptoBulk d ≤ Rows.uptoBulkAll l := by
  induction l with
  | nil => cases h
  | cons x r ih =>
    simp only [Rows.uptoBulkAll]
    rcases List.mem_cons.1 h with rfl | h
    · omega
    · have := ih h; omega

theorem bulk_len {H : Type} (l : List (DataW H)) : l.length ≤ Rows.uptoBulkAll l := by
  induction l with
  | nil => simp [Rows.uptoBulkAll]
  | cons x r ih => have := bulk_pos x; simp only [Rows.uptoBulkAll, List.length_cons]; omega

theorem bulk_small {H : Type} {l : List (DataW H)} (hk : Rows.uptoSmall H l = true) : Rows.uptoBulkAll l ≤ 1048576 := of_decide_eq_true hk

/-- A slice of texts that came in, and its bulk. -/
theorem open_txtU {H : Type} {enc : TypeId × Value → H} {W : World} {f : Nat} {v : Value} {x : DataW H × List MemPlace} (h : DataW.trod enc Tryz.prog W 0 (fun _ => true) true f 105 [v] = some x) :
    ∃ p cap, ∃ ts : List ByteArray, v = .slice p ts.length cap ∧ TxtAt W p ts ∧ FitT ts ∧ ts.length + 1 ≤ Rows.uptoBulk x.1 ∧ ∀ t ∈ ts, t.size ≤ Rows.uptoBulk x.1 := by
  rcases open_strings Tryz.underlying105 Tryz.underlying9 Tryz.cellsStr h with ⟨hcs, hx⟩ | ⟨a, l, c, ss, hcs, _, hl, hm, hz, hx, hcell, hws⟩
  · simp at hcs
    exact ⟨none, 0, [], hcs, Or.inl rfl, ⟨by unfold maxLen; simp, fun t ht => by simp at ht⟩, by rw [hx]; simp [Rows.uptoBulk], fun t ht => by simp at ht⟩
  · simp at hcs
    have hz' : ss.length = c := by simpa using hz
    have hlen : (ss.take l).length = l := by rw [List.length_take]; omega
    have hb1 := bulk_len (strs (ss.take l) : List (DataW H))
    have hb2 : (strs (ss.take l) : List (DataW H)).length = l := by rw [show (strs (ss.take l) : List (DataW H)).length = (ss.take l).length by simp [strs], hlen]
    refine ⟨some a, c, ss.take l, by rw [hlen]; exact hcs, ?_, ⟨by omega, fun t ht => hws t (List.mem_of_mem_take ht)⟩, ?_, fun t ht => ?_⟩
    · by_cases h0 : l = 0
      · subst h0; exact Or.inl rfl
      · right
        have hc0 := hcell 0 (by omega)
        obtain ⟨b, off, spot⟩ := a
        have hspot : spot = none := by simpa [Addr.add] using World.cell?_spot hc0
        subst hspot
        refine ⟨b, off, rfl, fun i hi => ?_⟩
        rw [hlen] at hi
        have := hcell i (by omega)
        rw [addr_add] at this
        rw [this, List.getElem_take, List.getD_eq_getElem?_getD, List.getElem?_eq_getElem (by omega)]
        rfl
    · rw [hx, hlen]
      simp only [Rows.uptoBulk]
      omega
    · rw [hx]
      simp only [Rows.uptoBulk]
      have hm' : (DataW.lit (.string t.data.toList) : DataW H) ∈ strs (ss.take l) := by
        unfold strs
        exact List.mem_map.2 ⟨t, ht, rfl⟩
      have := bulk_mem hm'
      simp only [Rows.uptoBulk] at this
      have e : t.data.toList.length = t.size := by simp
      omega

theorem sum_le_of {α : Type} (l : List α) (f g : α → Nat) (h : ∀ i ∈ l, f i ≤ g i) : (l.map f).sum ≤ (l.map g).sum := by
  induction l with
  | nil => simp
  | cons a l ih =>
    have h1 := h a (by simp)
    have h2 := ih fun i hi => h i (by simp [hi])
    simp only [List.map_cons, List.sum_cons]
    omega

theorem sum_add_of {α : Type} (l : List α) (f : α → Nat) : (l.map fun i => 1 + f i).sum = l.length + (l.map f).sum := by
  induction l with
  | nil => simp
  | cons a l ih => simp only [List.map_cons, List.sum_cons, List.length_cons, ih]; omega

set_option maxRecDepth 100000 in
theorem open_fieldsU {H : Type} {enc : TypeId × Value → H} {W : World} {b0 : Nat} {v : Value} {dd : DataW H} {p : List MemPlace}
    (hv : Value.okWide Tryz.prog W .any b0 37 v) (h : DataW.Trod enc Tryz.prog W 0 (fun _ => true) true 37 v dd p) : ∃ d : List Fx, IsXs W v d ∧ FitX d ∧ d.length + totF (d.map Fx.fld) ≤ Rows.uptoBulk dd := by
  obtain ⟨a0, len, cap, rfl⟩ := okWide_slice Tryz.underlying37 hv
  obtain ⟨fuel, hf⟩ := h
  rcases open_slice_pairs Tryz.underlying37 Tryz.underlying107 Tryz.cellsFld rfl rfl Tryz.cellsStr Tryz.cellsStrs hf with ⟨hcs, _⟩ | ⟨a, l, c, m, n, V0, V1, D0, D1, P0, P1, hcs, _, hl, hm, hmm, hdat, hall⟩
  · simp [Value.cells] at hcs
    obtain ⟨rfl, rfl, rfl⟩ := hcs
    exact ⟨[], ⟨none, 0, rfl, Or.inl rfl, fun x hx => by simp at hx⟩, ⟨by unfold maxLen; simp, fun x hx => by simp at hx⟩, by simp [totF]⟩
  · simp [Value.cells] at hcs
    obtain ⟨rfl, rfl, rfl⟩ := hcs
    have hm' : m = cap := by simpa using hmm
    subst hm'
    have each : ∀ i, i < m → ∃ x : Fx, V0 i = .string x.name ∧ V1 i = x.sl ∧ TxtAt W x.p x.txt ∧ FitF x.fld ∧ x.txt.length + 1 ≤ Rows.uptoBulk (D1 i) := by
      intro i hi
      obtain ⟨_, _, h3, h4⟩ := hall i hi
      obtain ⟨s, e0, _, hs⟩ := DataW.trod_string Tryz.underlying9 h3
      simp only [List.cons.injEq, and_true] at e0
      obtain ⟨q, cc, ts, e1, ht, hft, hbk, _⟩ := open_txtU h4
      exact ⟨⟨s, q, cc, ts⟩, e0, e1, ht, ⟨hs, hft⟩, hbk⟩
    have hdd : dd = .slice ((List.range len).map fun i => .agg [D0 i, D1 i]) ((List.range (m - len)).map fun j => .agg [D0 (len + j), D1 (len + j)]) := congrArg Prod.fst hdat
    have hbulk : ((List.range len).map fun i => Rows.uptoBulk (D1 i)).sum ≤ Rows.uptoBulk dd := by
      rw [hdd]
      simp only [Rows.uptoBulk, bulk_sum, List.map_map]
      refine Nat.le_trans (sum_le_of (List.range len) _ (Rows.uptoBulk ∘ fun i => DataW.agg [D0 i, D1 i]) fun i _ => ?_) (by omega)
      simp only [Function.comp, Rows.uptoBulk, Rows.uptoBulkAll]
      omega
    by_cases h0 : len = 0
    · subst h0
      exact ⟨[], ⟨_, _, rfl, Or.inl rfl, fun x hx => by simp at hx⟩, ⟨by unfold maxLen; simp, fun x hx => by simp at hx⟩, by simp [totF]⟩
    · have hc0 := (hall 0 (by omega)).1
      obtain ⟨b, off, spot⟩ := a
      have hspot : spot = none := by simpa [Addr.add] using World.cell?_spot hc0
      subst hspot
      let f : Nat → Fx := fun i => if h : i < m then (each i h).choose else default
      have fs : ∀ i (h : i < m), V0 i = .string (f i).name ∧ V1 i = (f i).sl ∧ TxtAt W (f i).p (f i).txt ∧ FitF (f i).fld ∧ (f i).txt.length + 1 ≤ Rows.uptoBulk (D1 i) := fun i h => by
        have e : f i = (each i h).choose := dif_pos h
        rw [e]
        exact (each i h).choose_spec
      have hlen : ((List.range len).map f).length = len := by simp
      refine ⟨(List.range len).map f, ⟨_, m, by rw [hlen], Or.inr ⟨b, off, rfl, fun i hi => ?_⟩, fun x hx => ?_⟩, ⟨by rw [hlen]; omega, fun x hx => ?_⟩, ?_⟩
      · have hi0 : i < len := by simpa using hi
        obtain ⟨h1, h2, _, _⟩ := hall i (by omega)
        obtain ⟨g1, g2, _⟩ := fs i (by omega)
        rw [addr_add] at h1 h2
        have ef : ((List.range len).map f)[i]'hi = f i := by simp
        rw [ef, h1, ← g1]
        refine ⟨rfl, ?_⟩
        rw [Nat.add_assoc, h2, g2]
      · obtain ⟨i, hi, rfl⟩ := List.mem_map.1 hx
        exact (fs i (by have := List.mem_range.1 hi; omega)).2.2.1
      · obtain ⟨i, hi, rfl⟩ := List.mem_map.1 hx
        exact (fs i (by have := List.mem_range.1 hi; omega)).2.2.2.1
      · refine Nat.le_trans ?_ hbulk
        have e1 : totF (((List.range len).map f).map Fx.fld) = ((List.range len).map fun i => (f i).txt.length).sum := by
          unfold totF
          rw [List.map_map, List.map_map]
          rfl
        have e2 := sum_add_of (List.range len) fun i => (f i).txt.length
        rw [e1, hlen]
        rw [List.length_range] at e2
        rw [← e2]
        refine sum_le_of _ _ _ fun i hi => ?_
        have := (fs i (by have := List.mem_range.1 hi; omega)).2.2.2.2
        omega

theorem copy_of (d : List Fx) (h : d.length + totF (d.map Fx.fld) ≤ 1048576) : CopyX d :=
  ⟨by omega, fun x hx => by
    have := totF_mem (List.mem_map.2 ⟨x, hx, rfl⟩ : x.fld ∈ d.map Fx.fld)
    have e : x.fld.2.length = x.txt.length := rfl
    omega⟩

end Go.Proofs.YticfpkodoghnnaaGreat

/-
  A slice of fields that came in, and what the sizes of its rows say (in an argument, or inside one).
-/
namespace Go.Proofs.YticfpkodoghnnaaGreat
open Go.ChangeShapes Go.WideShapes Go.ChangeAt Go.RowKit Go.Lib Go.Deep Go.Joins

theorem Tryz.bytesStr : Tryz.prog.bytesOf 9 = 16 := by kernel_rfl
theorem Tryz.bytesFld : Tryz.prog.bytesOf 107 = 40 := by kernel_rfl

theorem weights_all {H : Type} {P : Program} {e : TypeId} {d : DataW H} {n : Nat} (hn : n ∈ d.weights P e) : ∀ {l : List (DataW H)}, d ∈ l → n ∈ DataW.weightsAll P e l
  | x :: r, h => by
    simp only [DataW.weightsAll, List.mem_append]
    rcases List.mem_cons.1 h with rfl | h
    · exact Or.inl hn
    · exact Or.inr (weights_all hn h)

/-- A slice of texts that came in, and its row's size. -/
theorem open_txtZ {H : Type} {enc : TypeId × Value → H} {W : World} {f : Nat} {v : Value} {x : DataW H × List MemPlace} (h : DataW.trod enc Tryz.prog W 0 (fun _ => true) true f 105 [v] = some x) :
    ∃ p cap, ∃ ts : List ByteArray, v = .slice p ts.length cap ∧ TxtAt W p ts ∧ FitT ts ∧ (ts.length = 0 ∨ ∃ n ∈ x.1.weights Tryz.prog 105, ts.length * 16 ≤ n) := by
  rcases open_strings Tryz.underlying105 Tryz.underlying9 Tryz.cellsStr h with ⟨hcs, hx⟩ | ⟨a, l, c, ss, hcs, _, hl, hm, hz, hx, hcell, hws⟩
  · simp at hcs
    exact ⟨none, 0, [], hcs, Or.inl rfl, ⟨by unfold maxLen; simp, fun t ht => by simp at ht⟩, Or.inl rfl⟩
  · simp at hcs
    have hz' : ss.length = c := by simpa using hz
    have hlen : (ss.take l).length = l := by rw [List.length_take]; omega
    refine ⟨some a, c, ss.take l, by rw [hlen]; exact hcs, ?_, ⟨by omega, fun t ht => hws t (List.mem_of_mem_take ht)⟩, Or.inr ?_⟩
    · by_cases h0 : l = 0
      · subst h0; exact Or.inl rfl
      · right
        have hc0 := hcell 0 (by omega)
        obtain ⟨b, off, spot⟩ := a
        have hspot : spot = none := by simpa [Addr.add] using World.cell?_spot hc0
        subst hspot
        refine ⟨b, off, rfl, fun i hi => ?_⟩
        rw [hlen] at hi
        have := hcell i (by omega)
        rw [addr_add] at this
        rw [this, List.getElem_take, List.getD_eq_getElem?_getD, List.getElem?_eq_getElem (by omega)]
        rfl
    · rw [hx, hlen]
      simp only [DataW.weights, Tryz.underlying105]
      refine ⟨_, List.mem_cons_self, ?_⟩
      rw [Tryz.bytesStr]
      have hb2 : (strs (ss.take l) : List (DataW H)).length = l := by rw [show (strs (ss.take l) : List (DataW H)).length = (ss.take l).length by simp [strs], hlen]
      rw [hb2]
      exact Nat.mul_le_mul_right 16 (by omega)

set_option maxRecDepth 100000 in
theorem open_fldsZ {H : Type} {enc : TypeId × Value → H} {W : World} {fuel : Nat} {v : Value} {dd : DataW H} {p : List MemPlace}
    (hf : DataW.trod enc Tryz.prog W 0 (fun _ => true) true fuel 37 [v] = some (dd, p)) (hZ : ∀ n ∈ dd.weights Tryz.prog 37, n ≤ reachBytes) : ∃ d : List Fx, IsXs W v d ∧ FitX d ∧ CopyX d := by
  have hrb := reachBytes_lt
  rcases open_slice_pairs Tryz.underlying37 Tryz.underlying107 Tryz.cellsFld rfl rfl Tryz.cellsStr Tryz.cellsStrs hf with ⟨hcs, _⟩ | ⟨a, len, cap, m, n, V0, V1, D0, D1, P0, P1, hcs, _, hl, hm, hmm, hdat, hall⟩
  · simp at hcs
    subst hcs
    exact ⟨[], ⟨none, 0, rfl, Or.inl rfl, fun x hx => by simp at hx⟩, ⟨by unfold maxLen; simp, fun x hx => by simp at hx⟩, by simp, fun x hx => by simp at hx⟩
  · simp at hcs
    subst hcs
    have hm' : m = cap := by simpa using hmm
    subst hm'
    have each : ∀ i, i < m → ∃ x : Fx, V0 i = .string x.name ∧ V1 i = x.sl ∧ TxtAt W x.p x.txt ∧ FitF x.fld ∧ (x.txt.length = 0 ∨ ∃ n ∈ (D1 i).weights Tryz.prog 105, x.txt.length * 16 ≤ n) := by
      intro i hi
      obtain ⟨_, _, h3, h4⟩ := hall i hi
      obtain ⟨s, e0, _, hs⟩ := DataW.trod_string Tryz.underlying9 h3
      simp only [List.cons.injEq, and_true] at e0
      obtain ⟨q, cc, ts, e1, ht, hft, hbk⟩ := open_txtZ h4
      exact ⟨⟨s, q, cc, ts⟩, e0, e1, ht, ⟨hs, hft⟩, hbk⟩
    have hdd : dd = .slice ((List.range len).map fun i => .agg [D0 i, D1 i]) ((List.range (m - len)).map fun j => .agg [D0 (len + j), D1 (len + j)]) := congrArg Prod.fst hdat
    have hwl : len * 40 ≤ reachBytes := by
      have := hZ ((((List.range len).map fun i => DataW.agg [D0 i, D1 i]).length + ((List.range (m - len)).map fun j => DataW.agg [D0 (len + j), D1 (len + j)]).length) * Tryz.prog.bytesOf 107) (by
        rw [hdd]
        simp only [DataW.weights, Tryz.underlying37]
        exact List.mem_cons_self)
      rw [Tryz.bytesFld] at this
      simp only [List.length_map, List.length_range] at this
      omega
    have hwi : ∀ i, i < len → ∀ n ∈ (D1 i).weights Tryz.prog 105, n ≤ reachBytes := fun i hi n hn => by
      refine hZ n ?_
      rw [hdd]
      simp only [DataW.weights, Tryz.underlying37]
      refine List.mem_cons_of_mem _ (List.mem_append.2 (Or.inl (weights_all (d := .agg [D0 i, D1 i]) ?_ (List.mem_map.2 ⟨i, List.mem_range.2 hi, rfl⟩))))
      simp only [DataW.weights, Tryz.underlying107]
      exact List.mem_append.2 (Or.inr (List.mem_append.2 (Or.inl hn)))
    by_cases h0 : len = 0
    · subst h0
      exact ⟨[], ⟨_, _, rfl, Or.inl rfl, fun x hx => by simp at hx⟩, ⟨by unfold maxLen; simp, fun x hx => by simp at hx⟩, by simp, fun x hx => by simp at hx⟩
    · have hc0 := (hall 0 (by omega)).1
      obtain ⟨b, off, spot⟩ := a
      have hspot : spot = none := by simpa [Addr.add] using World.cell?_spot hc0
      subst hspot
      let f : Nat → Fx := fun i => if h : i < m then (each i h).choose else default
      have fs : ∀ i (h : i < m), V0 i = .string (f i).name ∧ V1 i = (f i).sl ∧ TxtAt W (f i).p (f i).txt ∧ FitF (f i).fld ∧ ((f i).txt.length = 0 ∨ ∃ n ∈ (D1 i).weights Tryz.prog 105, (f i).txt.length * 16 ≤ n) := fun i h => by
        have e : f i = (each i h).choose := dif_pos h
        rw [e]
        exact (each i h).choose_spec
      have hlen : ((List.range len).map f).length = len := by simp
      refine ⟨(List.range len).map f, ⟨_, m, by rw [hlen], Or.inr ⟨b, off, rfl, fun i hi => ?_⟩, fun x hx => ?_⟩, ⟨by rw [hlen]; omega, fun x hx => ?_⟩, by rw [hlen]; omega, fun x hx => ?_⟩
      · have hi0 : i < len := by simpa using hi
        obtain ⟨h1, h2, _, _⟩ := hall i (by omega)
        obtain ⟨g1, g2, _⟩ := fs i (by omega)
        rw [addr_add] at h1 h2
        have ef : ((List.range len).map f)[i]'hi = f i := by simp
        rw [ef, h1, ← g1]
        refine ⟨rfl, ?_⟩
        rw [Nat.add_assoc, h2, g2]
      · obtain ⟨i, hi, rfl⟩ := List.mem_map.1 hx
        exact (fs i (by have := List.mem_range.1 hi; omega)).2.2.1
      · obtain ⟨i, hi, rfl⟩ := List.mem_map.1 hx
        exact (fs i (by have := List.mem_range.1 hi; omega)).2.2.2.1
      · obtain ⟨i, hi, rfl⟩ := List.mem_map.1 hx
        have hil := List.mem_range.1 hi
        rcases (fs i (by omega)).2.2.2.2 with h | ⟨n, hn, h⟩
        · omega
        · have := hwi i hil n hn
          omega

set_option maxRecDepth 100000 in
theorem open_fieldsZ {H : Type} {enc : TypeId × Value → H} {W : World} {b0 : Nat} {v : Value} {dd : DataW H} {p : List MemPlace}
    (hv : Value.okWide Tryz.prog W .any b0 37 v) (h : DataW.Trod enc Tryz.prog W 0 (fun _ => true) true 37 v dd p) (hZ : ∀ n ∈ dd.weights Tryz.prog 37, n ≤ reachBytes) : ∃ d : List Fx, IsXs W v d ∧ FitX d ∧ CopyX d := by
  obtain ⟨a0, len, cap, rfl⟩ := okWide_slice Tryz.underlying37 hv
  obtain ⟨fuel, hf⟩ := h
  exact open_fldsZ (by simpa [Value.cells] using hf) hZ

end Go.Proofs.YticfpkodoghnnaaGreat

/-
  Finds and keys that came in. No program.
-/
namespace Go.Proofs.YticfpkodoghnnaaGreat
open Go.RowKit

def FitKy (k : Ky) : Prop := k.1.size ≤ maxLen ∧ k.2.size ≤ maxLen

/-- Finds that came in. -/
structure FoundIn (W : World) (v : Value) (fo : List Fd) : Prop where
  is : KFd.Is W v fo
  each : ∀ f ∈ fo, f.v.at W ∧ FitX f.v.o ∧ CopyX f.v.o
  kfit : ∀ f ∈ fo, FitKy (f.a, f.b)
theorem FoundIn.on {W W' : World} {v : Value} {fo : List Fd} (h : FoundIn W v fo) (hb : Below W.heap.size W W') : FoundIn W' v fo :=
  ⟨Kind.is_kept h.is hb, fun f hf => ⟨IsXs.kept (h.each f hf).1 hb, (h.each f hf).2⟩, h.kfit⟩


end Go.Proofs.YticfpkodoghnnaaGreat

/-
  Rows of any kind, keys, terms, versions and finds that came in: what the sizes of their rows say, and their bulk.
-/
namespace Go.Proofs.YticfpkodoghnnaaGreat
open Go.ChangeShapes Go.WideShapes Go.ChangeAt Go.RowKit Go.Lib Go.Deep Go.Joins

theorem Tryz.cellsWInt : Tryz.prog.cellsOf 3 = 1 := by kernel_rfl
theorem Tryz.cellsWStr : Tryz.prog.cellsOf 9 = 1 := by kernel_rfl
theorem Tryz.cellsWU64 : Tryz.prog.cellsOf 29 = 1 := by kernel_rfl
theorem Tryz.cellsWI64 : Tryz.prog.cellsOf 2 = 1 := by kernel_rfl
theorem Tryz.cellsWBool : Tryz.prog.cellsOf 4 = 1 := by kernel_rfl
theorem Tryz.cellsWFs : Tryz.prog.cellsOf 37 = 1 := by kernel_rfl
theorem Tryz.cellsWTs : Tryz.prog.cellsOf 32 = 1 := by kernel_rfl
theorem Tryz.cellsWFos : Tryz.prog.cellsOf 46 = 1 := by kernel_rfl
theorem Tryz.cellsWKey : Tryz.prog.cellsOf 31 = 2 := by kernel_rfl
theorem Tryz.cellsWVer : Tryz.prog.cellsOf 39 = 5 := by kernel_rfl
theorem Tryz.cellsWFd : Tryz.prog.cellsOf 70 = 7 := by kernel_rfl
theorem Tryz.cellsWTm : Tryz.prog.cellsOf 141 = 3 := by kernel_rfl
theorem Tryz.bytesWTm : Tryz.prog.bytesOf 141 = 40 := by kernel_rfl
theorem Tryz.bytesWFd : Tryz.prog.bytesOf 70 = 88 := by kernel_rfl

theorem bulkW_pos {H : Type} (d : DataW H) : 1 ≤ Rows.uptoBulk d := by
  cases d with
  | lit l => cases l <;> simp [Rows.uptoBulk]
  | nil => simp [Rows.uptoBulk]
  | ptr d => simp [Rows.uptoBulk]
  | slice elems spare => simp [Rows.uptoBulk]
  | agg parts => simp [Rows.uptoBulk]
  | iface t d => simp [Rows.uptoBulk]
  | map entries => simp [Rows.uptoBulk]
  | held h => simp [Rows.uptoBulk]
theorem bulkW_mem {H : Type} {d : DataW H} {l : List (DataW H)} (h : d ∈ l) : Rows.uptoBulk d ≤ Rows.uptoBulkAll l := by
  induction l with
  | nil => cases h
  | cons x r ih =>
    simp only [Rows.uptoBulkAll]
    rcases List.mem_cons.1 h with rfl | h
    · omega
    · have := ih h; omega
theorem bulkW_len {H : Type} (l : List (DataW H)) : l.length ≤ Rows.uptoBulkAll l := by
  induction l with
  | nil => simp [Rows.uptoBulkAll]
  | cons x r ih => have := bulkW_pos x; simp only [Rows.uptoBulkAll, List.length_cons]; omega

set_option maxRecDepth 100000 in
/-- A slice that came in (or lies inside of what came in): its elements, each well; its row's size; its bulk. -/
theorem open_rowZ {α : Type} [Inhabited α] (K : Kind α) {S : TypeId} {bytes : Nat} (hS : Tryz.prog.underlying S = some (.slice K.T)) (hk : Tryz.prog.cellsOf K.T = K.k) (hby : Tryz.prog.bytesOf K.T = bytes)
    {H : Type} (Ok : α → DataW H → Prop) {enc : TypeId × Value → H} {W : World} {fuel : Nat} {v : Value} {dd : DataW H} {p : List MemPlace}
    (each1 : ∀ (n : Nat) (cs : List Value) (x : DataW H × List MemPlace), DataW.trod enc Tryz.prog W 0 (fun _ => true) true n K.T cs = some x → (∀ n ∈ x.1.weights Tryz.prog K.T, n ≤ reachBytes) → ∃ b : α, cs = K.enc b ∧ Ok b x.1)
    (hf : DataW.trod enc Tryz.prog W 0 (fun _ => true) true fuel S [v] = some (dd, p)) (hZ : ∀ n ∈ dd.weights Tryz.prog S, n ≤ reachBytes) :
    ∃ q : List α, K.Is W v q ∧ (∀ x ∈ q, ∃ d, Rows.uptoBulk d ≤ Rows.uptoBulk dd ∧ Ok x d) ∧ q.length * bytes ≤ reachBytes ∧ q.length ≤ maxLen ∧ q.length ≤ Rows.uptoBulk dd := by
  rcases open_slice hS hf with ⟨hcs, _⟩ | ⟨a, len, cap, m, n, D, Pl, hcs, _, hl, hm, hmm, hdat, hall⟩
  · simp at hcs
    subst hcs
    exact ⟨[], K.is_nil W, fun x hx => by simp at hx, by simp, by simp, by simp⟩
  · simp at hcs
    subst hcs
    have hm' : m = cap := by simpa using hmm
    subst hm'
    rw [hk] at hall
    have hdd : dd = .slice ((List.range len).map D) ((List.range (m - len)).map fun j => D (len + j)) := congrArg Prod.fst hdat
    have hlb : len * bytes ≤ reachBytes := by
      have := hZ ((((List.range len).map D).length + ((List.range (m - len)).map fun j => D (len + j)).length) * Tryz.prog.bytesOf K.T) (by
        rw [hdd]
        simp only [DataW.weights, hS]
        exact List.mem_cons_self)
      rw [hby] at this
      simp only [List.length_map, List.length_range] at this
      exact Nat.le_trans (Nat.mul_le_mul_right _ (Nat.le_add_right _ _)) this
    have hbk : len ≤ Rows.uptoBulk dd := by
      rw [hdd]
      simp only [Rows.uptoBulk]
      have := bulkW_len ((List.range len).map D)
      simp only [List.length_map, List.length_range] at this
      omega
    have hbi : ∀ i, i < len → Rows.uptoBulk (D i) ≤ Rows.uptoBulk dd := fun i hi => by
      rw [hdd]
      simp only [Rows.uptoBulk]
      have := bulkW_mem (d := D i) (l := (List.range len).map D) (List.mem_map.2 ⟨i, List.mem_range.2 hi, rfl⟩)
      omega
    have each : ∀ i, i < len → ∃ t : α, (∀ j u, (K.enc t)[j]? = some u → W.cell? (a.add (i * K.k + j)) = some u) ∧ Ok t (D i) := by
      intro i hi
      obtain ⟨cs', h1, h2⟩ := hall i (by omega)
      obtain ⟨_, hlen, hcell⟩ := World.cells?_some h1
      have hDi : ∀ n ∈ (D i).weights Tryz.prog K.T, n ≤ reachBytes := fun n hn => by
        refine hZ n ?_
        rw [hdd]
        simp only [DataW.weights, hS]
        exact List.mem_cons_of_mem _ (List.mem_append.2 (Or.inl (weights_all hn (List.mem_map.2 ⟨i, List.mem_range.2 hi, rfl⟩))))
      obtain ⟨t, rfl, hok⟩ := each1 _ _ (D i, Pl i) h2 hDi
      refine ⟨t, fun j u hu => ?_, hok⟩
      have hj : j < K.k := by
        have := (List.getElem?_eq_some_iff.1 hu).1
        rwa [K.len] at this
      have := hcell j hj
      rw [add_add] at this
      rw [this]; exact hu
    by_cases h0 : len = 0
    · subst h0
      exact ⟨[], ⟨_, _, rfl, Or.inl rfl⟩, fun x hx => by simp at hx, by simp, by simp, by simp⟩
    · obtain ⟨f, hff⟩ := choose_lt each
      have h1 : 0 < (K.enc (f 0)).length := by rw [K.len]; exact K.pos
      have hc0 := (hff 0 (by omega)).1 0 _ (List.getElem?_eq_getElem h1)
      obtain ⟨b, off, spot⟩ := a
      have hspot : spot = none := by simpa [Addr.add] using World.cell?_spot hc0
      subst hspot
      have hlen : ((List.range len).map f).length = len := by simp
      refine ⟨(List.range len).map f, ⟨_, m, by rw [hlen], Or.inr ⟨b, off, rfl, fun i hi j u hu => ?_⟩⟩, fun x hx => ?_, by rw [hlen]; exact hlb, by rw [hlen]; omega, by rw [hlen]; exact hbk⟩
      · have hi0 : i < len := by simpa using hi
        have ef : ((List.range len).map f)[i]'hi = f i := by simp
        rw [ef] at hu
        have := (hff i hi0).1 j u hu
        rw [_root_.Go.Proofs.YticfpkodoghnnaaGreat.addr_add] at this
        rw [Nat.add_assoc]
        exact this
      · obtain ⟨i, hi, rfl⟩ := List.mem_map.1 hx
        exact ⟨D i, hbi i (List.mem_range.1 hi), (hff i (List.mem_range.1 hi)).2⟩

section
variable {H : Type} {enc : TypeId × Value → H} {W : World}

set_option maxRecDepth 100000 in
/-- One key, from its two cells. -/
theorem open_kyW {n : Nat} {cs : List Value} {x : DataW H × List MemPlace} (h : DataW.trod enc Tryz.prog W 0 (fun _ => true) true n 31 cs = some x) :
    ∃ k : Ky, cs = [.string k.1, .string k.2] ∧ FitKy k := by
  obtain ⟨xs, k, _, _, hlen, hxl, hf⟩ := DataW.trod_struct Tryz.underlying31 h
  rw [Tryz.cellsWKey] at hlen
  match cs, hlen with
  | [v0, v1], _ =>
    match xs, hxl with
    | [y0, y1], _ =>
      have g0 := hf 0 _ rfl
      have g1 := hf 1 _ rfl
      simp [Tryz.cellsWStr] at g0 g1
      obtain ⟨a, ea, _, ha⟩ := DataW.trod_string Tryz.underlying9 g0
      obtain ⟨b, eb, _, hb⟩ := DataW.trod_string Tryz.underlying9 g1
      simp only [List.cons.injEq, and_true] at ea eb
      exact ⟨(a, b), by rw [ea, eb], ha, hb⟩

set_option maxRecDepth 100000 in
/-- A key that came in. -/
theorem open_keyW {b0 : Nat} {v : Value} {d : DataW H} {p : List MemPlace}
    (hv : Value.okWide Tryz.prog W .any b0 31 v) (h : DataW.Trod enc Tryz.prog W 0 (fun _ => true) true 31 v d p) : ∃ k : Ky, v = .agg #[.string k.1, .string k.2] ∧ FitKy k := by
  obtain ⟨cs, rfl, hsz⟩ := okWide_struct Tryz.underlying31 hv
  obtain ⟨fuel, hf⟩ := h
  obtain ⟨k, hk, hfit⟩ := open_kyW (x := (d, p)) hf
  exact ⟨k, by
    have : cs.toList = [.string k.1, .string k.2] := by simpa [Value.cells] using hk
    rw [show cs = #[.string k.1, .string k.2] from Array.ext' (by rw [this])], hfit⟩

set_option maxRecDepth 100000 in
/-- One term, from its three cells. -/
theorem open_termW {n : Nat} {cs : List Value} {x : DataW H × List MemPlace} (h : DataW.trod enc Tryz.prog W 0 (fun _ => true) true n 141 cs = some x) :
    ∃ t : Tm, cs = encM t ∧ t.1.size ≤ maxLen ∧ t.2.2.size ≤ maxLen ∧ -9223372036854775808 ≤ t.2.1 ∧ t.2.1 ≤ 9223372036854775807 := by
  obtain ⟨xs, k, _, _, hlen, hxl, hf⟩ := DataW.trod_struct Tryz.underlying141 h
  rw [Tryz.cellsWTm] at hlen
  match cs, hlen with
  | [v0, v1, v2], _ =>
    match xs, hxl with
    | [y0, y1, y2], _ =>
      have g0 := hf 0 _ rfl
      have g1 := hf 1 _ rfl
      have g2 := hf 2 _ rfl
      simp [Tryz.cellsWStr, Tryz.cellsWInt] at g0 g1 g2
      obtain ⟨a, ea, _, ha⟩ := DataW.trod_string Tryz.underlying9 g0
      obtain ⟨o, eo, _, ho⟩ := DataW.trod_int Tryz.underlying3 g1
      obtain ⟨b, eb, _, hb⟩ := DataW.trod_string Tryz.underlying9 g2
      simp only [List.cons.injEq, and_true] at ea eo eb
      have hw : -9223372036854775808 ≤ o ∧ o ≤ 9223372036854775807 := by
        have := ho
        simp [Lit.wf, IntKind.min, IntKind.max, IntKind.signed, IntKind.bits] at this
        omega
      exact ⟨(a, o, b), by rw [ea, eo, eb]; rfl, ha, hb, hw.1, hw.2⟩

theorem open_termsW {fuel : Nat} {v : Value} {dd : DataW H} {p : List MemPlace}
    (hf : DataW.trod enc Tryz.prog W 0 (fun _ => true) true fuel 32 [v] = some (dd, p)) (hZ : ∀ n ∈ dd.weights Tryz.prog 32, n ≤ reachBytes) : ∃ q : List Tm, KM.Is W v q ∧ FitM q := by
  obtain ⟨q, h1, h2, _, h4, _⟩ := open_rowZ KM Tryz.underlying32 Tryz.cellsWTm Tryz.bytesWTm (fun t _ => t.1.size ≤ maxLen ∧ t.2.2.size ≤ maxLen ∧ -9223372036854775808 ≤ t.2.1 ∧ t.2.1 ≤ 9223372036854775807) (fun n cs x h _ => open_termW h) hf hZ
  exact ⟨q, h1, h4, fun x hx => (h2 x hx).choose_spec.2⟩

set_option maxRecDepth 100000 in
/-- One version, from its five cells. -/
theorem open_verW {n : Nat} {cs : List Value} {x : DataW H × List MemPlace} (h : DataW.trod enc Tryz.prog W 0 (fun _ => true) true n 39 cs = some x) (hZ : ∀ n ∈ x.1.weights Tryz.prog 39, n ≤ reachBytes) :
    ∃ b : Vx, cs = encVx b ∧ b.at W ∧ FitX b.o ∧ CopyX b.o := by
  obtain ⟨xs, k, _, hx, hlen, hxl, hf⟩ := DataW.trod_struct Tryz.underlying39 h
  rw [Tryz.cellsWVer] at hlen
  match cs, hlen with
  | [v0, v1, v2, v3, v4], _ =>
    match xs, hxl with
    | [y0, y1, y2, y3, y4], _ =>
      have g0 := hf 0 _ rfl
      have g1 := hf 1 _ rfl
      have g2 := hf 2 _ rfl
      have g3 := hf 3 _ rfl
      have g4 := hf 4 _ rfl
      simp [Tryz.cellsWInt, Tryz.cellsWU64, Tryz.cellsWI64, Tryz.cellsWBool, Tryz.cellsWFs] at g0 g1 g2 g3 g4
      obtain ⟨a, ea, _, _⟩ := DataW.trod_int Tryz.underlying3 g0
      obtain ⟨s, es, _, _⟩ := DataW.trod_int Tryz.underlying29 g1
      obtain ⟨t, et, _, _⟩ := DataW.trod_int Tryz.underlying2 g2
      obtain ⟨l, el, _⟩ := DataW.trod_bool Tryz.underlying4 g3
      have hz4 : ∀ n ∈ y4.1.weights Tryz.prog 37, n ≤ reachBytes := fun n hn => hZ n (by
        rw [hx]
        simp only [List.map_cons, List.map_nil, DataW.weights, Tryz.underlying39]
        exact List.mem_append.2 (Or.inr (List.mem_append.2 (Or.inr (List.mem_append.2 (Or.inr (List.mem_append.2 (Or.inr (List.mem_append.2 (Or.inl hn))))))))))
      obtain ⟨d, hd, hfd, hdc⟩ := open_fldsZ (dd := y4.1) (p := y4.2) g4 hz4
      simp only [List.cons.injEq, and_true] at ea es et el
      subst ea es et el
      have hsl := hd
      obtain ⟨p, cap, rfl, _⟩ := hsl
      exact ⟨⟨a, s, t, l, p, cap, d⟩, rfl, hd, hfd, hdc⟩

set_option maxRecDepth 100000 in
/-- One find, from its seven cells. -/
theorem open_fdW {n : Nat} {cs : List Value} {x : DataW H × List MemPlace} (h : DataW.trod enc Tryz.prog W 0 (fun _ => true) true n 70 cs = some x) (hZ : ∀ n ∈ x.1.weights Tryz.prog 70, n ≤ reachBytes) :
    ∃ b : Fd, cs = encFd b ∧ (b.v.at W ∧ FitX b.v.o ∧ CopyX b.v.o) ∧ FitKy (b.a, b.b) := by
  obtain ⟨xs, k, _, hx, hlen, hxl, hf⟩ := DataW.trod_struct Tryz.underlying70 h
  rw [Tryz.cellsWFd] at hlen
  match cs, hlen with
  | [v0, v1, v2, v3, v4, v5, v6], _ =>
    match xs, hxl with
    | [y0, y1], _ =>
      have g0 := hf 0 _ rfl
      have g1 := hf 1 _ rfl
      simp [Tryz.cellsWKey, Tryz.cellsWVer] at g0 g1
      obtain ⟨k, ek, hk⟩ := open_kyW g0
      have hz1 : ∀ n ∈ y1.1.weights Tryz.prog 39, n ≤ reachBytes := fun n hn => hZ n (by
        rw [hx]
        simp only [List.map_cons, List.map_nil, DataW.weights, Tryz.underlying70]
        exact List.mem_append.2 (Or.inr (List.mem_append.2 (Or.inl hn))))
      obtain ⟨b, eb, hb⟩ := open_verW (x := y1) g1 hz1
      refine ⟨⟨k.1, k.2, b⟩, ?_, hb, hk⟩
      simp only [List.cons.injEq, and_true] at ek
      show [v0, v1, v2, v3, v4, v5, v6] = .string k.1 :: .string k.2 :: encVx b
      rw [← eb, ek.1, ek.2]

set_option maxRecDepth 100000 in
theorem open_fdsW {fuel : Nat} {v : Value} {dd : DataW H} {p : List MemPlace}
    (hf : DataW.trod enc Tryz.prog W 0 (fun _ => true) true fuel 46 [v] = some (dd, p)) (hZ : ∀ n ∈ dd.weights Tryz.prog 46, n ≤ reachBytes) :
    ∃ fo : List Fd, FoundIn W v fo ∧ (∀ f ∈ fo, FitKy (f.a, f.b)) ∧ fo.length ≤ Rows.uptoBulk dd := by
  obtain ⟨q, h1, h2, _, _, h5⟩ := open_rowZ KFd Tryz.underlying46 Tryz.cellsWFd Tryz.bytesWFd (fun b _ => (b.v.at W ∧ FitX b.v.o ∧ CopyX b.v.o) ∧ FitKy (b.a, b.b)) (fun n cs x h hz => open_fdW h hz) hf hZ
  exact ⟨q, ⟨h1, fun f hf => (h2 f hf).choose_spec.2.1, fun f hf => (h2 f hf).choose_spec.2.2⟩, fun f hf => (h2 f hf).choose_spec.2.2, h5⟩

set_option maxRecDepth 100000 in
theorem open_foundW {b0 : Nat} {v : Value} {dd : DataW H} {p : List MemPlace}
    (hv : Value.okWide Tryz.prog W .any b0 46 v) (h : DataW.Trod enc Tryz.prog W 0 (fun _ => true) true 46 v dd p) (hZ : ∀ n ∈ dd.weights Tryz.prog 46, n ≤ reachBytes) :
    ∃ fo : List Fd, FoundIn W v fo ∧ (∀ f ∈ fo, FitKy (f.a, f.b)) ∧ fo.length ≤ Rows.uptoBulk dd := by
  obtain ⟨a0, len, cap, rfl⟩ := okWide_slice Tryz.underlying46 hv
  obtain ⟨fuel, hf⟩ := h
  exact open_fdsW (dd := dd) (p := p) (by simpa [Value.cells] using hf) hZ
end

end Go.Proofs.YticfpkodoghnnaaGreat

/-
  Puts and questions of stage 14 that came in: what the sizes of their rows say.
-/
namespace Go.Proofs.YticfpkodoghnnaaGreat
open Go.ChangeShapes Go.WideShapes Go.ChangeAt Go.RowKit Go.Lib Go.Deep Go.Joins

theorem Tryz.cellsPPut : Tryz.prog.cellsOf 62 = 6 := by kernel_rfl
theorem Tryz.bytesPPut : Tryz.prog.bytesOf 62 = 80 := by kernel_rfl
theorem Tryz.cellsPAsk : Tryz.prog.cellsOf 34 = 7 := by kernel_rfl
theorem Tryz.bytesPAsk : Tryz.prog.bytesOf 34 = 88 := by kernel_rfl

section
variable {H : Type} {enc : TypeId × Value → H} {W : World}

set_option maxRecDepth 100000 in
/-- One put, from its six cells. -/
theorem open_putP {n : Nat} {cs : List Value} {x : DataW H × List MemPlace} (h : DataW.trod enc Tryz.prog W 0 (fun _ => true) true n 62 cs = some x) (hZ : ∀ n ∈ x.1.weights Tryz.prog 62, n ≤ reachBytes) :
    ∃ b : Pt, cs = encPt b ∧ PtIn W b := by
  obtain ⟨xs, k, _, hx, hlen, hxl, hf⟩ := DataW.trod_struct Tryz.underlying62 h
  rw [Tryz.cellsPPut] at hlen
  match cs, hlen with
  | [v0, v1, v2, v3, v4, v5], _ =>
    match xs, hxl with
    | [y0, y1, y2, y3, y4], _ =>
      have g0 := hf 0 _ rfl
      have g1 := hf 1 _ rfl
      have g2 := hf 2 _ rfl
      have g3 := hf 3 _ rfl
      have g4 := hf 4 _ rfl
      simp [Tryz.cellsWU64, Tryz.cellsWKey, Tryz.cellsWBool, Tryz.cellsWFs] at g0 g1 g2 g3 g4
      obtain ⟨r, er, _⟩ := DataW.trod_bool Tryz.underlying4 g0
      obtain ⟨k, ek, hk⟩ := open_kyW g1
      obtain ⟨s, es, _, hs⟩ := DataW.trod_int Tryz.underlying29 g2
      obtain ⟨l, el, _⟩ := DataW.trod_bool Tryz.underlying4 g3
      have hz4 : ∀ n ∈ y4.1.weights Tryz.prog 37, n ≤ reachBytes := fun n hn => hZ n (by
        rw [hx]
        simp only [List.map_cons, List.map_nil, DataW.weights, Tryz.underlying62]
        exact List.mem_append.2 (Or.inr (List.mem_append.2 (Or.inr (List.mem_append.2 (Or.inr (List.mem_append.2 (Or.inr (List.mem_append.2 (Or.inl hn))))))))))
      obtain ⟨d, hd, hfd, hdc⟩ := open_fldsZ (dd := y4.1) (p := y4.2) g4 hz4
      simp only [List.cons.injEq, and_true] at er ek es el
      have hw : 0 ≤ s ∧ s ≤ 18446744073709551615 := by
        have := hs
        simp [Lit.wf, IntKind.min, IntKind.max, IntKind.signed, IntKind.bits] at this
        omega
      obtain ⟨p, cap, rfl, _⟩ := id hd
      refine ⟨⟨r, k.1, k.2, s, l, p, cap, d⟩, ?_, ⟨hd, hfd, hk, hw.1, hw.2⟩⟩
      rw [er, ek.1, ek.2, es, el]
      rfl

set_option maxRecDepth 100000 in
theorem open_putsP {b0 : Nat} {v : Value} {dd : DataW H} {p : List MemPlace}
    (hv : Value.okWide Tryz.prog W .any b0 22 v) (h : DataW.Trod enc Tryz.prog W 0 (fun _ => true) true 22 v dd p) (hZ : ∀ n ∈ dd.weights Tryz.prog 22, n ≤ reachBytes) :
    ∃ q : List Pt, KPt.Is W v q ∧ (∀ x ∈ q, PtIn W x) ∧ q.length ≤ 1760000000000 ∧ q.length ≤ Rows.uptoBulk dd := by
  obtain ⟨a0, len, cap, rfl⟩ := okWide_slice Tryz.underlying22 hv
  obtain ⟨fuel, hf⟩ := h
  obtain ⟨q, h1, h2, h3, _, h5⟩ := open_rowZ KPt Tryz.underlying22 Tryz.cellsPPut Tryz.bytesPPut (fun b _ => PtIn W b) (fun n cs x h hz => open_putP h hz) (dd := dd) (p := p) (by simpa [Value.cells] using hf) hZ
  have hrb := reachBytes_lt
  refine ⟨q, h1, fun x hx => ?_, by omega, h5⟩
  obtain ⟨d, hd, ho⟩ := h2 x hx
  exact ho

set_option maxRecDepth 100000 in
/-- One question, from its seven cells. -/
theorem open_askP {n : Nat} {cs : List Value} {x : DataW H × List MemPlace} (h : DataW.trod enc Tryz.prog W 0 (fun _ => true) true n 34 cs = some x) (hZ : ∀ n ∈ x.1.weights Tryz.prog 34, n ≤ reachBytes) :
    ∃ b : Ak, cs = encAk b ∧ AkIn W b := by
  obtain ⟨xs, k, _, hx, hlen, hxl, hf⟩ := DataW.trod_struct Tryz.underlying34 h
  rw [Tryz.cellsPAsk] at hlen
  match cs, hlen with
  | [v0, v1, v2, v3, v4, v5, v6], _ =>
    match xs, hxl with
    | [y0, y1, y2, y3, y4, y5], _ =>
      have g0 := hf 0 _ rfl
      have g1 := hf 1 _ rfl
      have g2 := hf 2 _ rfl
      have g3 := hf 3 _ rfl
      have g4 := hf 4 _ rfl
      have g5 := hf 5 _ rfl
      simp [Tryz.cellsWU64, Tryz.cellsWKey, Tryz.cellsWTs, Tryz.cellsWInt] at g0 g1 g2 g3 g4 g5
      obtain ⟨f, ef, _, hf0⟩ := DataW.trod_int Tryz.underlying29 g0
      obtain ⟨s, es, _, hs⟩ := DataW.trod_int Tryz.underlying29 g1
      obtain ⟨t, et, _, ht⟩ := DataW.trod_int Tryz.underlying29 g2
      obtain ⟨k, ek, hk⟩ := open_kyW g3
      have hz4 : ∀ n ∈ y4.1.weights Tryz.prog 32, n ≤ reachBytes := fun n hn => hZ n (by
        rw [hx]
        simp only [List.map_cons, List.map_nil, DataW.weights, Tryz.underlying34]
        exact List.mem_append.2 (Or.inr (List.mem_append.2 (Or.inr (List.mem_append.2 (Or.inr (List.mem_append.2 (Or.inr (List.mem_append.2 (Or.inl hn))))))))))
      obtain ⟨tm, htm, hft⟩ := open_termsW (dd := y4.1) (p := y4.2) g4 hz4
      obtain ⟨i, ei, _, hi⟩ := DataW.trod_int Tryz.underlying3 g5
      simp only [List.cons.injEq, and_true] at ef es et ek ei
      have hw0 : 0 ≤ f ∧ f ≤ 18446744073709551615 := by
        have := hf0
        simp [Lit.wf, IntKind.min, IntKind.max, IntKind.signed, IntKind.bits] at this
        omega
      have hw1 : 0 ≤ s ∧ s ≤ 18446744073709551615 := by
        have := hs
        simp [Lit.wf, IntKind.min, IntKind.max, IntKind.signed, IntKind.bits] at this
        omega
      have hw2 : 0 ≤ t ∧ t ≤ 18446744073709551615 := by
        have := ht
        simp [Lit.wf, IntKind.min, IntKind.max, IntKind.signed, IntKind.bits] at this
        omega
      have hw3 : -9223372036854775808 ≤ i ∧ i ≤ 9223372036854775807 := by
        have := hi
        simp [Lit.wf, IntKind.min, IntKind.max, IntKind.signed, IntKind.bits] at this
        omega
      obtain ⟨q, qc, rfl, _⟩ := id htm
      refine ⟨⟨f, s, t, k.1, k.2, q, qc, tm, i⟩, ?_, ⟨htm, hft, hk, hw0, hw1, hw2, hw3⟩⟩
      rw [ef, es, et, ek.1, ek.2, ei]
      rfl

set_option maxRecDepth 100000 in
theorem open_asksP {b0 : Nat} {v : Value} {dd : DataW H} {p : List MemPlace}
    (hv : Value.okWide Tryz.prog W .any b0 23 v) (h : DataW.Trod enc Tryz.prog W 0 (fun _ => true) true 23 v dd p) (hZ : ∀ n ∈ dd.weights Tryz.prog 23, n ≤ reachBytes) :
    ∃ q : List Ak, KAk.Is W v q ∧ (∀ x ∈ q, AkIn W x) ∧ q.length ≤ 1760000000000 ∧ q.length ≤ Rows.uptoBulk dd := by
  obtain ⟨a0, len, cap, rfl⟩ := okWide_slice Tryz.underlying23 hv
  obtain ⟨fuel, hf⟩ := h
  obtain ⟨q, h1, h2, h3, _, h5⟩ := open_rowZ KAk Tryz.underlying23 Tryz.cellsPAsk Tryz.bytesPAsk (fun b _ => AkIn W b) (fun n cs x h hz => open_askP h hz) (dd := dd) (p := p) (by simpa [Value.cells] using hf) hZ
  have hrb := reachBytes_lt
  refine ⟨q, h1, fun x hx => ?_, by omega, h5⟩
  obtain ⟨d, hd, ho⟩ := h2 x hx
  exact ho

set_option maxRecDepth 100000 in
/-- A question that came in. -/
theorem open_ask1P {b0 : Nat} {v : Value} {d : DataW H} {p : List MemPlace}
    (hv : Value.okWide Tryz.prog W .any b0 34 v) (h : DataW.Trod enc Tryz.prog W 0 (fun _ => true) true 34 v d p) (hZ : ∀ n ∈ d.weights Tryz.prog 34, n ≤ reachBytes) : ∃ q : Ak, v = .agg (encAk q).toArray ∧ AkIn W q := by
  obtain ⟨cs, rfl, hsz⟩ := okWide_struct Tryz.underlying34 hv
  obtain ⟨fuel, hf⟩ := h
  obtain ⟨q, hq, hin⟩ := open_askP (x := (d, p)) hf hZ
  exact ⟨q, by
    have : cs.toList = encAk q := by simpa [Value.cells] using hq
    rw [show cs = (encAk q).toArray from Array.ext' (by rw [this])], hin⟩
end

end Go.Proofs.YticfpkodoghnnaaGreat
