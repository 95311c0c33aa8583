/-
  Texts of this claim, one behind the other: Bas Blk Blf App Sze0 Kp0 Kps.
-/
import Derived.Test.YtmjchokacmbkoabDoorRows
import Derived.Test.YtmjchokacmbkoabDoorPa
import Derived.MakeChecks
import Derived.ProofKit
import Derived.OpenShut
import Derived.Lay
import Derived.Stop.Joined
import Derived.SliceStrings
import Derived.Deep.SlicePairs
import Derived.Lib.LaidU8
import Derived.SizedLaws
import Derived.ChangeSlices
import Derived.Deep.DeepHandedRow
import Derived.Test.YtmjchokacmbkoabDoorPb
import Derived.Test.YtmjchokacmbkoabDoorPd
import Derived.Test.YtmjchokacmbkoabDoorPc
import Derived.Laws.CopyOwn
import Derived.Maps.AppendAt
import Derived.Deep.CutRange
/-
  What each row's proof opens its arguments by, and what the laid variables give.
-/
namespace Go.Proofs.YtmjchokacmbkoabDoor
open Go.ChangeShapes Go.WideShapes Go.ChangeAt Go.RowKit Go.Lib Go.Deep

theorem Tryd.own : ownKnob Tryd.prog.godebug = none := by kernel_rfl
theorem Tryd.laidOut : laidOutB Tryd.prog = true := by kernel_rfl
theorem Tryd.cellsFld : Tryd.prog.cellsOf 30 = 2 := by kernel_rfl
theorem Tryd.cellsStr : Tryd.prog.cellsOf 9 = 1 := by kernel_rfl
theorem Tryd.cellsStrs : Tryd.prog.cellsOf 28 = 1 := by kernel_rfl
theorem Tryd.cellsByte : Tryd.prog.cellsOf 5 = 1 := by kernel_rfl

/-- What the rows list. -/
def seatLaid : List (String × DataW Unit) := [("unicode/utf8.acceptRanges", Rows.laid_unicode_utf8_acceptRanges), ("folio/value.plain", Rows.laid_folio_value_plain), ("unicode/utf8.first", Rows.laid_unicode_utf8_first)]

theorem gPlain : Tryd.prog.globalNamed "folio/value.plain" = some 0 := by kernel_rfl
theorem tPlain : (Tryd.prog.globals[0]?).map (·.type) = some 91 := by kernel_rfl
theorem uPair : Tryd.prog.underlying 90 = some (.array 2 5) := by kernel_rfl
theorem cPair : Tryd.prog.cellsOf 90 = 2 := by kernel_rfl
theorem cPlain : Tryd.prog.cellsOf 91 = 26 := by kernel_rfl

def plainLits : List (Int × Int) := [(97, 122), (65, 90), (48, 57), (45, 45), (46, 46), (95, 95), (124, 124), (42, 42), (64, 64), (47, 47), (58, 58), (43, 43), (44, 44)]

theorem plain_data : (Rows.laid_folio_value_plain : DataW Unit) = .agg (plainLits.map fun p => .agg [.lit (.int .u8 p.1), .lit (.int .u8 p.2)]) := rfl

theorem one_byte_read {W : World} {f : Nat} {cs : List Value} {k : Int} {q : List MemPlace} (h : DataW.trod (fun _ => ()) Tryd.prog W 0 (fun _ => true) false f 5 cs = some (.lit (.int .u8 k), q)) : cs = [.int .u8 k] := by
  obtain ⟨n, rfl, e, _⟩ := DataW.trod_int Tryd.underlying5 h
  cases e
  rfl

theorem pair_cells {W : World} {f : Nat} {cs : List Value} {a b : Int} {q : List MemPlace} (hl : cs.length = 2) (h : DataW.trod (fun _ => ()) Tryd.prog W 0 (fun _ => true) false f 90 cs = some (.agg [.lit (.int .u8 a), .lit (.int .u8 b)], q)) : cs = [.int .u8 a, .int .u8 b] := by
  match cs, hl with
  | [x, y], _ =>
    obtain ⟨f0, d0, q0, e0, h0⟩ := array_elem uPair h 0 (by decide)
    obtain ⟨f1, d1, q1, e1, h1⟩ := array_elem uPair h 1 (by decide)
    rw [Tryd.cellsByte] at h0 h1
    simp only [List.getElem?_cons_zero, List.getElem?_cons_succ, Option.some.injEq] at e0 e1
    subst e0 e1
    have k0 := one_byte_read h0
    have k1 := one_byte_read h1
    simp at k0 k1
    rw [k0, k1]

theorem list_pairs : ∀ (n : Nat) (cs : List Value) (ps : List (Int × Int)), cs.length = n * 2 → ps.length = n → (∀ i (h : i < ps.length), (cs.drop (i * 2)).take 2 = [.int .u8 ps[i].1, .int .u8 ps[i].2]) → cs = ps.flatMap fun p => [.int .u8 p.1, .int .u8 p.2]
  | 0, cs, ps, hc, hp, _ => by
    rw [List.length_eq_zero_iff.1 (by omega : cs.length = 0), List.length_eq_zero_iff.1 hp]
    rfl
  | n + 1, cs, ps, hc, hp, h => by
    match ps, hp, cs, hc with
    | _ :: _, _, [], hc => simp at hc
    | _ :: _, _, [_], hc => simp at hc; omega
    | p :: ps, hp, x :: y :: cs, hc =>
      have h0 := h 0 (by simp)
      simp at h0
      have := list_pairs n cs ps (by simp at hc; omega) (by simpa using hp) (fun i hi => by
        have := h (i + 1) (by simp; omega)
        rw [show (i + 1) * 2 = i * 2 + 1 + 1 by omega] at this
        simpa using this)
      rw [List.flatMap_cons, ← this, h0.1, h0.2]
      rfl

theorem plain_of_laid {W : World} (h : laidMetH Tryd.prog seatLaid W) : PlainAt W := by
  rw [MakeChecks.laidMetH_plain _ _ _ (by kernel_rfl)] at h
  obtain ⟨g, t, cs, fuel, p, hg, ht, hv, hd⟩ := laidMet.reads h (n := "folio/value.plain") (d := Rows.laid_folio_value_plain) (.tail _ (.head _))
  obtain rfl := Option.some.inj (gPlain.symm.trans hg)
  obtain rfl := Option.some.inj (tPlain.symm.trans ht)
  rw [plain_data] at hd
  obtain ⟨_, _, _, _, hlen, _, _⟩ := DataW.trod_array Tryd.underlying91 hd
  rw [cPlain] at hlen
  have hcs := list_pairs 13 cs.toList plainLits (by simpa using hlen) rfl (fun i hi => by
    have hi13 : i < 13 := hi
    obtain ⟨f, d, q, e, hx⟩ := array_elem Tryd.underlying91 hd i hi13
    rw [cPair] at hx
    rw [List.getElem?_map, List.getElem?_eq_getElem hi] at e
    simp only [Option.map_some, Option.some.injEq] at e
    subst e
    exact pair_cells (by rw [List.length_take, List.length_drop]; rw [hlen]; omega) hx)
  have hv' : W.var? Tryd.prog "folio/value.plain" = some cs := hv
  simp only [World.var?, hg, Option.bind_some] at hv'
  split at hv'
  · rename_i c t' fr hh
    cases hv'
    refine ⟨t', fr, ?_⟩
    rw [hh]
    have : cs = plainCells := Array.toList_inj.1 (by rw [hcs]; rfl)
    rw [this]
  · cases hv'

/-- A slice of texts that came in. -/
theorem open_txt {H : Type} {enc : TypeId × Value → H} {W : World} {f : Nat} {v : Value} {x : DataW H × List MemPlace} (h : DataW.trod enc Tryd.prog W 0 (fun _ => true) true f 28 [v] = some x) :
    ∃ p cap, ∃ ts : List ByteArray, v = .slice p ts.length cap ∧ TxtAt W p ts ∧ FitT ts := by
  rcases open_strings Tryd.underlying28 Tryd.underlying9 Tryd.cellsStr h with ⟨hcs, _⟩ | ⟨a, l, c, ss, hcs, _, hl, hm, hz, _, hcell, hws⟩
  · simp at hcs
    exact ⟨none, 0, [], hcs, Or.inl rfl, by unfold maxLen; simp, fun t ht => by simp at ht⟩
  · simp at hcs
    have hz' : ss.length = c := by simpa using hz
    have hlen : (ss.take l).length = l := by rw [List.length_take]; omega
    refine ⟨some a, c, ss.take l, by rw [hlen]; exact hcs, ?_, by omega, fun t ht => hws t (List.mem_of_mem_take ht)⟩
    by_cases h0 : l = 0
    · subst h0; exact Or.inl rfl
    · right
      have hc0 := hcell 0 (by omega)
      obtain ⟨b, off, spot⟩ := a
      have hspot : spot = none := by simpa [Addr.add] using World.cell?_spot hc0
      subst hspot
      refine ⟨b, off, rfl, fun i hi => ?_⟩
      rw [hlen] at hi
      have := hcell i (by omega)
      rw [addr_add] at this
      rw [this, List.getElem_take, List.getD_eq_getElem?_getD, List.getElem?_eq_getElem (by omega)]
      rfl

set_option maxRecDepth 100000 in
/-- A slice of fields that came in. -/
theorem open_fields {H : Type} {enc : TypeId × Value → H} {W : World} {b0 : Nat} {v : Value} {dd : DataW H} {p : List MemPlace}
    (hv : Value.okWide Tryd.prog W .any b0 22 v) (h : DataW.Trod enc Tryd.prog W 0 (fun _ => true) true 22 v dd p) : ∃ d : List Fx, IsXs W v d ∧ FitX d := by
  obtain ⟨a0, len, cap, rfl⟩ := okWide_slice Tryd.underlying22 hv
  obtain ⟨fuel, hf⟩ := h
  rcases open_slice_pairs Tryd.underlying22 Tryd.underlying30 Tryd.cellsFld rfl rfl Tryd.cellsStr Tryd.cellsStrs hf with ⟨hcs, _⟩ | ⟨a, l, c, m, n, V0, V1, D0, D1, P0, P1, hcs, _, hl, hm, hmm, hdat, hall⟩
  · simp [Value.cells] at hcs
    obtain ⟨rfl, rfl, rfl⟩ := hcs
    exact ⟨[], ⟨none, 0, rfl, Or.inl rfl, fun x hx => by simp at hx⟩, by unfold maxLen; simp, fun x hx => by simp at hx⟩
  · simp [Value.cells] at hcs
    obtain ⟨rfl, rfl, rfl⟩ := hcs
    have hm' : m = cap := by simpa using hmm
    subst hm'
    have each : ∀ i, i < m → ∃ x : Fx, V0 i = .string x.name ∧ V1 i = x.sl ∧ TxtAt W x.p x.txt ∧ FitF x.fld := by
      intro i hi
      obtain ⟨_, _, h3, h4⟩ := hall i hi
      obtain ⟨s, e0, _, hs⟩ := DataW.trod_string Tryd.underlying9 h3
      simp only [List.cons.injEq, and_true] at e0
      obtain ⟨q, cc, ts, e1, ht, hft⟩ := open_txt h4
      exact ⟨⟨s, q, cc, ts⟩, e0, e1, ht, hs, hft⟩
    by_cases h0 : len = 0
    · subst h0
      exact ⟨[], ⟨_, _, rfl, Or.inl rfl, fun x hx => by simp at hx⟩, by unfold maxLen; simp, fun x hx => by simp at hx⟩
    · have hc0 := (hall 0 (by omega)).1
      obtain ⟨b, off, spot⟩ := a
      have hspot : spot = none := by simpa [Addr.add] using World.cell?_spot hc0
      subst hspot
      let f : Nat → Fx := fun i => if h : i < m then (each i h).choose else default
      have fs : ∀ i (h : i < m), V0 i = .string (f i).name ∧ V1 i = (f i).sl ∧ TxtAt W (f i).p (f i).txt ∧ FitF (f i).fld := fun i h => by
        have e : f i = (each i h).choose := dif_pos h
        rw [e]
        exact (each i h).choose_spec
      have hlen : ((List.range len).map f).length = len := by simp
      refine ⟨(List.range len).map f, ⟨_, m, by rw [hlen], Or.inr ⟨b, off, rfl, fun i hi => ?_⟩, fun x hx => ?_⟩, by rw [hlen]; omega, fun x hx => ?_⟩
      · have hi0 : i < len := by simpa using hi
        obtain ⟨h1, h2, _, _⟩ := hall i (by omega)
        obtain ⟨g1, g2, _⟩ := fs i (by omega)
        rw [addr_add] at h1 h2
        have ef : ((List.range len).map f)[i]'hi = f i := by simp
        rw [ef, h1, ← g1]
        refine ⟨rfl, ?_⟩
        rw [Nat.add_assoc, h2, g2]
      · obtain ⟨i, hi, rfl⟩ := List.mem_map.1 hx
        exact (fs i (by have := List.mem_range.1 hi; omega)).2.2.1
      · obtain ⟨i, hi, rfl⟩ := List.mem_map.1 hx
        exact (fs i (by have := List.mem_range.1 hi; omega)).2.2.2

set_option maxRecDepth 100000 in
/-- A slice of bytes that came in. -/
theorem open_bytes {H : Type} {enc : TypeId × Value → H} {W : World} {b0 : Nat} {v : Value} {dd : DataW H} {p : List MemPlace}
    (hv : Value.okWide Tryd.prog W .any b0 39 v) (h : DataW.Trod enc Tryd.prog W 0 (fun _ => true) true 39 v dd p) : ∃ l : List UInt8, RestAt W.heap.size W v l := by
  obtain ⟨a0, len, cap, rfl⟩ := okWide_slice Tryd.underlying39 hv
  obtain ⟨fuel, hf⟩ := h
  rcases open_ints Tryd.underlying39 Tryd.underlying5 Tryd.cellsByte hf with ⟨hcs, _⟩ | ⟨a, l, c, zs, hcs, _, hl, hm, hz, _, hcell, hws⟩
  · simp [Value.cells] at hcs
    obtain ⟨rfl, rfl, rfl⟩ := hcs
    exact ⟨[], none, 0, rfl, by simp, by unfold maxLen; omega, Or.inl rfl⟩
  · simp [Value.cells] at hcs
    obtain ⟨rfl, rfl, rfl⟩ := hcs
    have hz' : zs.length = cap := by simpa using hz
    have hlen : ((zs.take len).map fun z => UInt8.ofNat z.toNat).length = len := by rw [List.length_map, List.length_take]; omega
    refine ⟨(zs.take len).map fun z => UInt8.ofNat z.toNat, some a, cap, by rw [hlen], by rw [hlen]; exact hl, hm, ?_⟩
    by_cases h0 : len = 0
    · subst h0; exact Or.inl (by simp)
    · right
      have hc0 := hcell 0 (by omega)
      obtain ⟨b, off, spot⟩ := a
      have hspot : spot = none := by simpa [Addr.add] using World.cell?_spot hc0
      subst hspot
      refine ⟨b, off, rfl, ?_, fun i hi => ?_⟩
      · have := cell_block hc0
        simpa [Addr.add] using this
      · rw [hlen] at hi
        have := hcell i (by omega)
        rw [addr_add, List.getD_eq_getElem?_getD, List.getElem?_eq_getElem (by omega)] at this
        rw [this]
        have hw := hws _ (List.getElem_mem (show i < zs.length by omega))
        have hb : 0 ≤ zs[i] ∧ zs[i] ≤ 255 := by simpa [Lit.wf, IntKind.min, IntKind.max, IntKind.signed, IntKind.bits] using hw
        simp
        omega

end Go.Proofs.YtmjchokacmbkoabDoor

/-
  What the bound of a second form gives: how great an argument can be.
-/
namespace Go.Proofs.YtmjchokacmbkoabDoor
open Go.ChangeShapes Go.WideShapes Go.ChangeAt Go.RowKit Go.Lib Go.Deep

theorem bulk_pos {H : Type} (d : DataW H) : 1 ≤ Rows.uptoBulk d := by
  cases d with
  | lit l => cases l <;> simp [Rows.uptoBulk]
  | nil => simp [Rows.uptoBulk]
  | ptr d => simp [Rows.uptoBulk]
  | slice elems spare => simp [Rows.uptoBulk]
  | agg parts => simp [Rows.uptoBulk]
  | iface t d => simp [Rows.uptoBulk]
  | map entries => simp [Rows.uptoBulk]
  | held h => simp [Rows.uptoBulk]

theorem bulk_sum {H : Type} (l : List (DataW H)) : Rows.uptoBulkAll l = (l.map Rows.uptoBulk).sum := by
  induction l with
  | nil => simp [Rows.uptoBulkAll]
  | cons x r ih => simp [Rows.uptoBulkAll, ih]

theorem bulk_mem {H : Type} {d : DataW H} {l : List (DataW H)} (h : d ∈ l) : Rows.uptoBulk d ≤ Rows.uptoBulkAll l := by
  induction l with
  | nil => cases h
  | cons x r ih =>
    simp only [Rows.uptoBulkAll]
    rcases List.mem_cons.1 h with rfl | h
    · omega
    · have := ih h; omega

theorem bulk_len {H : Type} (l : List (DataW H)) : l.length ≤ Rows.uptoBulkAll l := by
  induction l with
  | nil => simp [Rows.uptoBulkAll]
  | cons x r ih => have := bulk_pos x; simp only [Rows.uptoBulkAll, List.length_cons]; omega

theorem bulk_small {H : Type} {l : List (DataW H)} (hk : Rows.uptoSmall H l = true) : Rows.uptoBulkAll l ≤ 1048576 := of_decide_eq_true hk

/-- A slice of texts that came in, and its bulk. -/
theorem open_txtU {H : Type} {enc : TypeId × Value → H} {W : World} {f : Nat} {v : Value} {x : DataW H × List MemPlace} (h : DataW.trod enc Tryd.prog W 0 (fun _ => true) true f 28 [v] = some x) :
    ∃ p cap, ∃ ts : List ByteArray, v = .slice p ts.length cap ∧ TxtAt W p ts ∧ FitT ts ∧ ts.length + 1 ≤ Rows.uptoBulk x.1 ∧ ∀ t ∈ ts, t.size ≤ Rows.uptoBulk x.1 := by
  rcases open_strings Tryd.underlying28 Tryd.underlying9 Tryd.cellsStr h with ⟨hcs, hx⟩ | ⟨a, l, c, ss, hcs, _, hl, hm, hz, hx, hcell, hws⟩
  · simp at hcs
    exact ⟨none, 0, [], hcs, Or.inl rfl, ⟨by unfold maxLen; simp, fun t ht => by simp at ht⟩, by rw [hx]; simp [Rows.uptoBulk], fun t ht => by simp at ht⟩
  · simp at hcs
    have hz' : ss.length = c := by simpa using hz
    have hlen : (ss.take l).length = l := by rw [List.length_take]; omega
    have hb1 := bulk_len (strs (ss.take l) : List (DataW H))
    have hb2 : (strs (ss.take l) : List (DataW H)).length = l := by rw [show (strs (ss.take l) : List (DataW H)).length = (ss.take l).length by simp [strs], hlen]
    refine ⟨some a, c, ss.take l, by rw [hlen]; exact hcs, ?_, ⟨by omega, fun t ht => hws t (List.mem_of_mem_take ht)⟩, ?_, fun t ht => ?_⟩
    · by_cases h0 : l = 0
      · subst h0; exact Or.inl rfl
      · right
        have hc0 := hcell 0 (by omega)
        obtain ⟨b, off, spot⟩ := a
        have hspot : spot = none := by simpa [Addr.add] using World.cell?_spot hc0
        subst hspot
        refine ⟨b, off, rfl, fun i hi => ?_⟩
        rw [hlen] at hi
        have := hcell i (by omega)
        rw [addr_add] at this
        rw [this, List.getElem_take, List.getD_eq_getElem?_getD, List.getElem?_eq_getElem (by omega)]
        rfl
    · rw [hx, hlen]
      simp only [Rows.uptoBulk]
      omega
    · rw [hx]
      simp only [Rows.uptoBulk]
      have hm' : (DataW.lit (.string t.data.toList) : DataW H) ∈ strs (ss.take l) := by
        unfold strs
        exact List.mem_map.2 ⟨t, ht, rfl⟩
      have := bulk_mem hm'
      simp only [Rows.uptoBulk] at this
      have e : t.data.toList.length = t.size := by simp
      omega

end Go.Proofs.YtmjchokacmbkoabDoor

/-
  A slice of fields that came in, and its bulk.
-/
namespace Go.Proofs.YtmjchokacmbkoabDoor
open Go.ChangeShapes Go.WideShapes Go.ChangeAt Go.RowKit Go.Lib Go.Deep

theorem sum_le_of {α : Type} (l : List α) (f g : α → Nat) (h : ∀ i ∈ l, f i ≤ g i) : (l.map f).sum ≤ (l.map g).sum := by
  induction l with
  | nil => simp
  | cons a l ih =>
    have h1 := h a (by simp)
    have h2 := ih fun i hi => h i (by simp [hi])
    simp only [List.map_cons, List.sum_cons]
    omega

theorem sum_add_of {α : Type} (l : List α) (f : α → Nat) : (l.map fun i => 1 + f i).sum = l.length + (l.map f).sum := by
  induction l with
  | nil => simp
  | cons a l ih => simp only [List.map_cons, List.sum_cons, List.length_cons, ih]; omega

set_option maxRecDepth 100000 in
theorem open_fieldsU {H : Type} {enc : TypeId × Value → H} {W : World} {b0 : Nat} {v : Value} {dd : DataW H} {p : List MemPlace}
    (hv : Value.okWide Tryd.prog W .any b0 22 v) (h : DataW.Trod enc Tryd.prog W 0 (fun _ => true) true 22 v dd p) : ∃ d : List Fx, IsXs W v d ∧ FitX d ∧ d.length + totF (d.map Fx.fld) ≤ Rows.uptoBulk dd := by
  obtain ⟨a0, len, cap, rfl⟩ := okWide_slice Tryd.underlying22 hv
  obtain ⟨fuel, hf⟩ := h
  rcases open_slice_pairs Tryd.underlying22 Tryd.underlying30 Tryd.cellsFld rfl rfl Tryd.cellsStr Tryd.cellsStrs hf with ⟨hcs, _⟩ | ⟨a, l, c, m, n, V0, V1, D0, D1, P0, P1, hcs, _, hl, hm, hmm, hdat, hall⟩
  · simp [Value.cells] at hcs
    obtain ⟨rfl, rfl, rfl⟩ := hcs
    exact ⟨[], ⟨none, 0, rfl, Or.inl rfl, fun x hx => by simp at hx⟩, ⟨by unfold maxLen; simp, fun x hx => by simp at hx⟩, by simp [totF]⟩
  · simp [Value.cells] at hcs
    obtain ⟨rfl, rfl, rfl⟩ := hcs
    have hm' : m = cap := by simpa using hmm
    subst hm'
    have each : ∀ i, i < m → ∃ x : Fx, V0 i = .string x.name ∧ V1 i = x.sl ∧ TxtAt W x.p x.txt ∧ FitF x.fld ∧ x.txt.length + 1 ≤ Rows.uptoBulk (D1 i) := by
      intro i hi
      obtain ⟨_, _, h3, h4⟩ := hall i hi
      obtain ⟨s, e0, _, hs⟩ := DataW.trod_string Tryd.underlying9 h3
      simp only [List.cons.injEq, and_true] at e0
      obtain ⟨q, cc, ts, e1, ht, hft, hbk, _⟩ := open_txtU h4
      exact ⟨⟨s, q, cc, ts⟩, e0, e1, ht, ⟨hs, hft⟩, hbk⟩
    have hdd : dd = .slice ((List.range len).map fun i => .agg [D0 i, D1 i]) ((List.range (m - len)).map fun j => .agg [D0 (len + j), D1 (len + j)]) := congrArg Prod.fst hdat
    have hbulk : ((List.range len).map fun i => Rows.uptoBulk (D1 i)).sum ≤ Rows.uptoBulk dd := by
      rw [hdd]
      simp only [Rows.uptoBulk, bulk_sum, List.map_map]
      refine Nat.le_trans (sum_le_of (List.range len) _ (Rows.uptoBulk ∘ fun i => DataW.agg [D0 i, D1 i]) fun i _ => ?_) (by omega)
      simp only [Function.comp, Rows.uptoBulk, Rows.uptoBulkAll]
      omega
    by_cases h0 : len = 0
    · subst h0
      exact ⟨[], ⟨_, _, rfl, Or.inl rfl, fun x hx => by simp at hx⟩, ⟨by unfold maxLen; simp, fun x hx => by simp at hx⟩, by simp [totF]⟩
    · have hc0 := (hall 0 (by omega)).1
      obtain ⟨b, off, spot⟩ := a
      have hspot : spot = none := by simpa [Addr.add] using World.cell?_spot hc0
      subst hspot
      let f : Nat → Fx := fun i => if h : i < m then (each i h).choose else default
      have fs : ∀ i (h : i < m), V0 i = .string (f i).name ∧ V1 i = (f i).sl ∧ TxtAt W (f i).p (f i).txt ∧ FitF (f i).fld ∧ (f i).txt.length + 1 ≤ Rows.uptoBulk (D1 i) := fun i h => by
        have e : f i = (each i h).choose := dif_pos h
        rw [e]
        exact (each i h).choose_spec
      have hlen : ((List.range len).map f).length = len := by simp
      refine ⟨(List.range len).map f, ⟨_, m, by rw [hlen], Or.inr ⟨b, off, rfl, fun i hi => ?_⟩, fun x hx => ?_⟩, ⟨by rw [hlen]; omega, fun x hx => ?_⟩, ?_⟩
      · have hi0 : i < len := by simpa using hi
        obtain ⟨h1, h2, _, _⟩ := hall i (by omega)
        obtain ⟨g1, g2, _⟩ := fs i (by omega)
        rw [addr_add] at h1 h2
        have ef : ((List.range len).map f)[i]'hi = f i := by simp
        rw [ef, h1, ← g1]
        refine ⟨rfl, ?_⟩
        rw [Nat.add_assoc, h2, g2]
      · obtain ⟨i, hi, rfl⟩ := List.mem_map.1 hx
        exact (fs i (by have := List.mem_range.1 hi; omega)).2.2.1
      · obtain ⟨i, hi, rfl⟩ := List.mem_map.1 hx
        exact (fs i (by have := List.mem_range.1 hi; omega)).2.2.2.1
      · refine Nat.le_trans ?_ hbulk
        have e1 : totF (((List.range len).map f).map Fx.fld) = ((List.range len).map fun i => (f i).txt.length).sum := by
          unfold totF
          rw [List.map_map, List.map_map]
          rfl
        have e2 := sum_add_of (List.range len) fun i => (f i).txt.length
        rw [e1, hlen]
        rw [List.length_range] at e2
        rw [← e2]
        refine sum_le_of _ _ _ fun i hi => ?_
        have := (fs i (by have := List.mem_range.1 hi; omega)).2.2.2.2
        omega

end Go.Proofs.YtmjchokacmbkoabDoor

/-
  An append of a row that came in, whatever its length; a row of fields whose texts lie elsewhere.
-/
namespace Go.Proofs.YtmjchokacmbkoabDoor
open Go.RowKit Go.Lib

theorem grownBy_refl (w : World) (g : Option Nat) : w.grownBy w g := ⟨rfl, rfl, rfl, Nat.le_refl _, fun _ _ _ => rfl⟩

theorem wpList_append_rows {ops : Array Oper} {rest : List Oper} {o : Oper} {a : Act} {Q : Exit → Act → World → Prop} (w : World) (hgd : o.guard = none) (s x : Operand) (t : TypeId)
    (ho : o.op = .call { callee := .builtin .append, args := #[s, x], argTypes := #[t, t] })
    (base : Nat) (e : TypeId) (i : TypeInfo) (z : Value) (size bytes : Nat) (ht : Tryd.prog.underlying t = some (.slice e)) (hi : Tryd.prog.info? e = some i) (hz : i.zero = some z)
    (hsize : i.size = size) (hby : i.bytes = bytes) (hzs : z.cells.size = size) (hsz : 0 < size)
    (v : Value) (n : Nat) (xs : List Value) (hs : a.eval s = v) (hown : w.ownsRow base e size v n xs)
    (p : Option Addr) (m c : Nat) (news : List Value) (hx : a.eval x = .slice p m c) (hl : news.length = m * size)
    (hsrc : m = 0 ∨ ∃ ad, p = some ad ∧ ∀ j u, news[j]? = some u → w.cell? (ad.add j) = some u) (h1 : ∀ u ∈ news, u.oneCell' = true)
    (h63 : n + m ≤ maxLen) (hbytes : (n + m) * bytes ≤ 140737488355328) (hbase : base ≤ w.heap.size)
    (h : ∀ v' w', w'.ownsRow base e size v' (n + m) (xs ++ news) → w.grownBy w' v.ownBlock → wpList Tryd.prog ops Q rest (a.put o.dst v') w') :
    wpList Tryd.prog ops Q (o :: rest) a w := by
  rcases hsrc with rfl | ⟨ad, rfl, hc⟩
  · have hn : news = [] := List.length_eq_zero_iff.1 (by simpa using hl)
    subst hn
    obtain ⟨q, cap, hv, hcap, hq⟩ : ∃ q cap, v = .slice q n cap ∧ n ≤ cap ∧ (q = none → n = 0 ∧ cap = 0) := by
      rcases hown.2 with ⟨hv, h0⟩ | ⟨g, cap, cur, hv, _, _, hc, _⟩
      · exact ⟨none, 0, by rw [hv, h0], by omega, fun _ => ⟨h0, rfl⟩⟩
      · exact ⟨_, cap, hv, hc, fun h => by cases h⟩
    have hrun : (Builtin.append_ #[t, t] o.type #[.slice q n cap, .slice p 0 c]).run Tryd.prog w = .ok (.slice q n cap) w := by
      cases q with
      | none =>
        obtain ⟨rfl, rfl⟩ := hq rfl
        cases p <;> simp [Builtin.append_, run_underlying ht, Builtin.lenOf, Builtin.firstCells, sizeOf, typeInfo, hi, loadCells, loadCellsFrom]
      | some q =>
        cases p <;> simp [Builtin.append_, run_underlying ht, Builtin.lenOf, Builtin.firstCells, sizeOf, typeInfo, hi, storeCells, loadCells, loadCellsFrom, hcap]
    rw [hv] at hs
    refine wpList_plain hgd fun K hK' => ?_
    unfold Oper.wp
    simp [execOp, ho, resolve, invoke, builtin, hs, hx, hrun, Result.andThen]
    refine hK' _ _ (h _ _ ?_ (grownBy_refl _ _))
    rw [← hv, List.append_nil]
    exact hown
  · exact wpList_append_own _ hgd s x t ho base e i z size bytes ht hi hz hsize hby hzs hsz v n xs hs hown ad m c news hx hl hc h1 h63 hbytes hbase (fun v' w' h2 h3 _ => h v' w' h2 h3)

/-- v owns a row of the fields d, in a block at or behind n0; their texts lie anywhere. -/
def RowX (n0 : Nat) (w : World) (v : Value) (d : List Fx) : Prop := w.ownsRow n0 30 2 v d.length (cellsX d)

theorem RowX.is {n0 : Nat} {w : World} {v : Value} {d : List Fx} (h1 : RowX n0 w v d) (h2 : ∀ x ∈ d, x.at w) : IsXs w v d := by
  rcases h1.2 with ⟨rfl, h0⟩ | ⟨g, c, cur, rfl, _, hg, _, _, hsz, htk⟩
  · obtain rfl := List.length_eq_zero_iff.1 h0
    exact ⟨none, 0, rfl, Or.inl rfl, fun x hx => by simp at hx⟩
  · refine ⟨_, c, rfl, Or.inr ⟨g, 0, rfl, fun i hi => ?_⟩, h2⟩
    obtain ⟨c0, c1⟩ := cellsX_get d i hi
    have e : ∀ j, j < d.length * 2 → (cellsX d)[j]? = cur[j]? := fun j hj => by
      rw [← htk, List.getElem?_take, if_pos hj, Array.getElem?_toList]
    rw [Nat.zero_add, cell_of_row w g _ cur _ _ hg, cell_of_row w g _ cur _ _ hg, ← e _ (by omega), ← e _ (by omega)]
    exact ⟨c0, c1⟩

/-- What a slice of fields gives an append. -/
theorem src_xs {w : World} {p : Option Addr} {d : List Fx} (h : d = [] ∨ ∃ b off, p = some ⟨b, off, none⟩ ∧ XsAt w b off d) :
    d.length = 0 ∨ ∃ ad, p = some ad ∧ ∀ j u, (cellsX d)[j]? = some u → w.cell? (ad.add j) = some u := by
  rcases h with rfl | ⟨b, off, rfl, hx⟩
  · exact Or.inl rfl
  · refine Or.inr ⟨_, rfl, fun j u hu => ?_⟩
    have hj : j < d.length * 2 := by
      have := (List.getElem?_eq_some_iff.1 hu).1
      rwa [cellsX_len] at this
    have hk : j / 2 < d.length := by omega
    obtain ⟨c0, c1⟩ := cellsX_get d (j / 2) hk
    obtain ⟨m0, m1⟩ := hx (j / 2) hk
    rw [addr_add]
    by_cases e : j % 2 = 0
    · have ej : j = j / 2 * 2 := by omega
      rw [ej] at hu ⊢
      rw [c0] at hu
      rw [m0]; exact hu
    · have ej : j = j / 2 * 2 + 1 := by omega
      rw [ej] at hu ⊢
      rw [c1] at hu
      rw [← Nat.add_assoc, m1]; exact hu

/-- What a slice of texts gives an append. -/
theorem src_ts {w : World} {p : Option Addr} {ts : List ByteArray} (h : TxtAt w p ts) :
    ts.length = 0 ∨ ∃ ad, p = some ad ∧ ∀ j u, (ts.map Value.string)[j]? = some u → w.cell? (ad.add j) = some u := by
  rcases h with rfl | ⟨b, off, rfl, hx⟩
  · exact Or.inl rfl
  · refine Or.inr ⟨_, rfl, fun j u hu => ?_⟩
    have hj : j < ts.length := by simpa using (List.getElem?_eq_some_iff.1 hu).1
    rw [addr_add, hx j hj]
    rw [List.getElem?_map, List.getElem?_eq_getElem hj] at hu
    exact hu

theorem txts_one (ts : List ByteArray) : ∀ u ∈ ts.map Value.string, u.oneCell' = true := by
  intro u hu
  obtain ⟨t, _, rfl⟩ := List.mem_map.1 hu
  rfl

/-- What the reference's Texts answers. -/
def RtPost (w : World) (ts : List ByteArray) (e : Ending) (w' : World) : Prop := (∃ p c, e = .returned (.slice p ts.length c) ∧ TxtAt w p ts) ∧ w' = w

set_option maxHeartbeats 2000000 in
set_option maxRecDepth 100000 in
theorem rtexts_any (v : Value) (nm : ByteArray) (d : List Fx) (w : World) (hv : IsXs w v d) (hf : FitX d) :
    Calls Tryd.prog 12 #[v, .string nm] w fun e w' => RtPost w (textsOf (d.map Fx.fld) nm) e w' := by
  obtain ⟨p, cap, rfl, hd, ht⟩ := hv
  have HT := hid ht
  have HD := hid hd
  have hl := hf.1
  unfold maxLen at hl
  clear ht hd hf
  go_enter Tryd.func12, Tryd.ntmps12
  go_wp2_with fail
  go_loopg [5] d.length (fun g vi wr => ∃ i : Nat, vi = .int .i64 i ∧ i ≤ d.length ∧ d.length - i ≤ g ∧ w = wr ∧ Hid (∀ j (h : j < d.length), j < i → d[j].name ≠ nm))
  case atStart => exact ⟨0, rfl, by omega, by omega, rfl, fun j _ h => by omega⟩
  case round =>
    obtain ⟨i, rfl, hi, hg, rfl, HJ⟩ := hrel
    by_cases hlt : i < d.length
    · have hltz : (i : Int) < (d.length : Int) := by omega
      have hiz : (0 : Int) ≤ i := by omega
      obtain ⟨b, off, rfl, hxs⟩ : ∃ b off, p = some ⟨b, off, none⟩ ∧ XsAt w b off d := by
        rcases HD.out with h | h
        · subst h; simp at hlt
        · exact h
      obtain ⟨c0, c1⟩ := hxs i hlt
      have hxi : (d[i]).at w := HT.out _ (List.getElem_mem hlt)
      have hyes : d[i].name = nm → textsOf (d.map Fx.fld) nm = d[i].txt := fun e => by
        have := textsOf_at (d.map Fx.fld) nm i (by rw [List.length_map]; exact hlt) (fun j hj => by simp only [List.getElem_map]; exact HJ.out j (by omega) hj) (by simp only [List.getElem_map]; exact e)
        simpa [Fx.fld] using this
      have hnx : d[i].name ≠ nm → ∀ j (h : j < d.length), j < i + 1 → d[j].name ≠ nm := fun e j h hj => by
        by_cases ej : j = i
        · subst ej; exact e
        · exact HJ.out j h (by omega)
      obtain ⟨x, hx⟩ : ∃ x, d[i] = x := ⟨_, rfl⟩
      rw [hx] at c0 c1 hxi hyes hnx
      have HXI := hid hxi
      have HYES := hid hyes
      have HNX := hid hnx
      clear hxs hxi hx hyes hnx
      unfold Fx.sl at c1
      cases hq : (x.name.toList == nm.toList) with
      | true =>
        have hq2 : x.name = nm := by rw [toList_eq, decide_eq_true_eq] at hq; exact hq
        have HQ := hid (HYES.out hq2)
        clear hq2
        go_wp2_with fail
        go_ret
        rw [HQ.out]
        exact ⟨⟨_, _, rfl, HXI.out⟩, rfl⟩
      | false =>
        have hq2 : x.name ≠ nm := by rw [toList_eq, decide_eq_false_iff_not] at hq; exact hq
        have HQ := hid (HNX.out hq2)
        clear hq2
        go_wp2_with fail
        go_roundg (d.length - (i + 1))
        case measure => omega
        exact ⟨i + 1, by go_num, by omega, by omega, rfl, HQ.out⟩
    · have hltz : ¬ (i : Int) < (d.length : Int) := by omega
      have H0 : Hid (textsOf (d.map Fx.fld) nm = []) := textsOf_no _ _ (fun j hj => by
        rw [List.length_map] at hj
        simp only [List.getElem_map]
        exact HJ.out j hj (by omega))
      go_wp2_with fail
      go_ret
      rw [H0.out]
      exact ⟨⟨none, 0, rfl, Or.inl rfl⟩, rfl⟩

end Go.Proofs.YtmjchokacmbkoabDoor

/-
  How long a value's bytes are, and how many blanks its line has.
-/
namespace Go.Proofs.YtmjchokacmbkoabDoor
open Go.RowKit Go.Lib

/-- What ValueSizes counts. -/
def cntF (f : Fld) : Nat := 2 + f.1.size + (f.2.map fun t => 1 + t.size).sum
def cntB (fs : List Fld) : Nat := 1 + (fs.map cntF).sum

theorem encTs_len (ts : List ByteArray) : (ts.flatMap encT).length = (ts.map fun t => 1 + t.size).sum := by
  induction ts with
  | nil => rfl
  | cons t ts ih =>
    rw [List.flatMap_cons, List.length_append, encT_len, ih, List.map_cons, List.sum_cons]
    omega

theorem encF_cnt (f : Fld) : (encF f).length = cntF f := by
  unfold encF cntF
  rw [List.length_append, List.length_append, encT_len, encTs_len]
  simp only [List.length_cons, List.length_nil]
  omega

theorem encL_cnt (fs : List Fld) : (encL fs).length = cntB fs := by
  unfold encL cntB
  rw [List.length_cons]
  have : (fs.flatMap encF).length = (fs.map cntF).sum := by
    induction fs with
    | nil => rfl
    | cons f fs ih => rw [List.flatMap_cons, List.length_append, encF_cnt, ih, List.map_cons, List.sum_cons]
  omega

/-- The blanks of a text. -/
def blanks (l : List UInt8) : Nat := l.countP fun c => c == 32

theorem blanks_append (a b : List UInt8) : blanks (a ++ b) = blanks a + blanks b := List.countP_append ..

theorem blanks_join : ∀ ws : List (List UInt8), (∀ w ∈ ws, blanks w = 0) → blanks (Lib.join ws [32]) = ws.length - 1
  | [], _ => rfl
  | [w], h => by
    have := h w (by simp)
    simpa [Lib.join] using this
  | w :: v :: ws, h => by
    have h1 := h w (by simp)
    have ih := blanks_join (v :: ws) (fun x hx => h x (by simp [hx]))
    have e : Lib.join (w :: v :: ws) [32] = w ++ [32] ++ Lib.join (v :: ws) [32] := by simp [Lib.join]
    rw [e, blanks_append, blanks_append, h1, ih]
    simp [blanks]
    omega

theorem field_noblank {l : List UInt8} (h : fieldB l = true) : blanks l = 0 := by
  unfold blanks
  rw [List.countP_eq_zero]
  intro c hc
  unfold fieldB spell at h
  cases l with
  | nil => simp at hc
  | cons x r =>
    simp only [Bool.and_eq_true, List.all_eq_true] at h
    have key : lodB (c.toNat : Int) = true ∨ smallB (c.toNat : Int) = true := by
      rcases List.mem_cons.1 hc with rfl | hc
      · exact Or.inr h.1.2
      · exact Or.inl (h.2 c hc)
    intro e
    have e : c = 32 := by simpa using e
    subst e
    rcases key with k | k
    · revert k; decide
    · revert k; decide

theorem hexd_noblank (k : Nat) (h : k < 16) : (hexd k == 32) = false := by
  have t : ((List.range 16).all fun k => !(hexd k == 32)) = true := by decide
  have := List.all_eq_true.1 t k (List.mem_range.2 h)
  simpa using this

theorem write_noblank (l : List UInt8) : blanks (writeL l) = 0 := by
  induction l with
  | nil => rfl
  | cons c l ih =>
    rw [writeL_cons, blanks_append, ih]
    unfold writeC
    cases hp : plainB (c.toNat : Int) with
    | true =>
      have : (c == 32) = false := by
        rw [beq_eq_false_iff_ne]
        intro e
        subst e
        revert hp; decide
      simp [blanks, this]
    | false =>
      have hc := c.toNat_lt
      simp [blanks, hexd_noblank (c.toNat / 16) (by omega), hexd_noblank (c.toNat % 16) (by omega)]

theorem word_data (n t : ByteArray) : (wordOf n t).data.toList = n.data.toList ++ [61] ++ writeL t.data.toList := by
  unfold wordOf
  obtain ⟨⟨n⟩⟩ := n
  simp

theorem word_noblank {n t : ByteArray} (h : fieldB n.data.toList = true) : blanks (wordOf n t).data.toList = 0 := by
  rw [word_data, blanks_append, blanks_append, field_noblank h, write_noblank]
  rfl

theorem words_cnt (fs : List Fld) : (wordsL fs).length = totF fs := by
  unfold wordsL totF
  induction fs with
  | nil => rfl
  | cons f fs ih => rw [List.flatMap_cons, List.length_append, ih]; simp [wordsF]

theorem line_blanks {fs : List Fld} (h : mayB fs = true) : blanks (lineOf fs).data.toList = totF fs - 1 := by
  unfold lineOf
  show blanks (Lib.join ((wordsL fs).map (·.data.toList)) [32]).toArray.toList = _
  rw [List.toList_toArray, blanks_join, List.length_map, words_cnt]
  intro w hw
  obtain ⟨x, hx, rfl⟩ := List.mem_map.1 hw
  obtain ⟨f, hf, hx⟩ := List.mem_flatMap.1 hx
  obtain ⟨t, _, rfl⟩ := List.mem_map.1 hx
  exact word_noblank (fits_parts (may_fits h f hf)).2.2.2.2

theorem line_empty (fs : List Fld) : (lineOf fs).size = 0 ↔ totF fs = 0 := by
  have e : (lineOf fs).size = (Lib.join ((wordsL fs).map (·.data.toList)) [32]).length := by
    show (Lib.join ((wordsL fs).map (·.data.toList)) [32]).toArray.size = _
    simp
  rw [e, ← words_cnt]
  cases hw : wordsL fs with
  | nil => simp [Lib.join, List.intercalate]
  | cons x r =>
    have hx : x ∈ wordsL fs := by rw [hw]; simp
    obtain ⟨f, hf, hx⟩ := List.mem_flatMap.1 hx
    obtain ⟨t, _, rfl⟩ := List.mem_map.1 hx
    have hl : 0 < (wordOf f.1 t).data.toList.length := by rw [word_data]; simp; omega
    constructor
    · intro h
      exfalso
      cases r with
      | nil =>
        rw [List.map_cons, List.map_nil, Lib.join_one] at h
        omega
      | cons y r =>
        have : Lib.join ((wordOf f.1 t :: y :: r).map (·.data.toList)) [32] = (wordOf f.1 t).data.toList ++ [32] ++ Lib.join ((y :: r).map (·.data.toList)) [32] := by simp [Lib.join]
        rw [this] at h
        simp at h
    · intro h; simp at h

theorem join_size (c : Nat) : ∀ ws : List (List UInt8), (∀ w ∈ ws, w.length ≤ c) → (Lib.join ws [32]).length ≤ ws.length * (c + 1)
  | [], _ => by simp [Lib.join, List.intercalate]
  | [w], h => by
    have := h w (by simp)
    rw [Lib.join_one]
    simp
    omega
  | w :: v :: ws, h => by
    have h1 := h w (by simp)
    have ih := join_size c (v :: ws) (fun x hx => h x (by simp [hx]))
    have e : Lib.join (w :: v :: ws) [32] = w ++ [32] ++ Lib.join (v :: ws) [32] := by simp [Lib.join]
    have e2 : (w :: v :: ws).length * (c + 1) = (v :: ws).length * (c + 1) + (c + 1) := by rw [List.length_cons, Nat.add_mul, Nat.one_mul]
    have e3 : ([32] : List UInt8).length = 1 := rfl
    rw [e, List.length_append, List.length_append, e2, e3]
    omega

theorem line_size {fs : List Fld} (h : mayB fs = true) : (lineOf fs).size ≤ 53504 := by
  have e : (lineOf fs).size = (Lib.join ((wordsL fs).map (·.data.toList)) [32]).length := by
    show (Lib.join ((wordsL fs).map (·.data.toList)) [32]).toArray.size = _
    simp
  have h1 := join_size 417 ((wordsL fs).map (·.data.toList)) (fun w hw => by
    obtain ⟨x, hx, rfl⟩ := List.mem_map.1 hw
    obtain ⟨f, hf, hx⟩ := List.mem_flatMap.1 hx
    obtain ⟨t, ht, rfl⟩ := List.mem_map.1 hx
    simpa using word_len (may_fits h f hf) ht)
  have h2 := wordsL_len (fun f hf => may_fits h f hf) (may_parts h).1
  rw [List.length_map] at h1
  have h3 : (wordsL fs).length * (417 + 1) ≤ 128 * (417 + 1) := Nat.mul_le_mul_right _ h2
  omega

theorem cnt_small {fs : List Fld} (h : mayB fs = true) (i : Nat) : 1 + ((fs.take i).map cntF).sum ≤ 17057 := by
  have h1 : ((fs.take i).map cntF).sum = ((fs.take i).flatMap encF).length := by
    generalize fs.take i = gs
    induction gs with
    | nil => rfl
    | cons f gs ih => rw [List.flatMap_cons, List.length_append, encF_cnt, ← ih, List.map_cons, List.sum_cons]
  have := enc_ahead h i
  omega

theorem tot_small {fs : List Fld} (h : mayB fs = true) (i : Nat) : totF (fs.take i) ≤ 128 := by
  rw [← words_cnt]
  refine wordsL_len (fun f hf => may_fits h f (List.mem_of_mem_take hf)) ?_
  have := (may_parts h).1
  rw [List.length_take]
  omega

end Go.Proofs.YtmjchokacmbkoabDoor

/-
  What ValueKeeps makes and writes: rows with spare room, and fields that are written over.
-/
namespace Go.Proofs.YtmjchokacmbkoabDoor
open Go.RowKit Go.Lib

theorem Tryd.infoTs : (Tryd.prog.info? 28).map (fun i => (i.zero, i.size, i.bytes)) = some (some (.slice none 0 0), 1, 24) := by kernel_rfl

def markA : ByteArray := ⟨#[109, 97, 114, 107]⟩

/-- The texts of x lie in a block of their own at or behind N, with two cells of spare room: the mark, and nothing. -/
def RoomAt (N : Nat) (W : World) (x : Fx) : Prop :=
  ∃ g, x.p = some ⟨g, 0, none⟩ ∧ x.cap = x.txt.length + 2 ∧ N ≤ g ∧ W.heap[g]? = some (.cells (x.txt.map Value.string ++ [Value.string markA, Value.string ⟨#[]⟩]).toArray 9 (0, 0))

theorem RoomAt.on {N : Nat} {W W' : World} {x : Fx} (h : RoomAt N W x) (hb : Below W.heap.size W W') : RoomAt N W' x := by
  obtain ⟨g, h1, h2, h3, h4⟩ := h
  exact ⟨g, h1, h2, h3, (hb.block g (Array.getElem?_eq_some_iff.1 h4).1).trans h4⟩

theorem RoomAt.else {N m0 : Nat} {W W' : World} {x : Fx} {e : TypeId} {size : Nat} {u : Value} {m : Nat} {ys : List Value} (h : RoomAt N W x) (hu : W.ownsRow m0 e size u m ys) (hne : e ≠ 9) (hg : W.grownBy W' u.ownBlock) : RoomAt N W' x := by
  obtain ⟨g, h1, h2, h3, h4⟩ := h
  refine ⟨g, h1, h2, h3, (hg.block g (Array.getElem?_eq_some_iff.1 h4).1 fun e2 => ?_).trans h4⟩
  obtain ⟨cs', h5⟩ := own_type hu e2.symm
  rw [h4] at h5
  injection h5 with h5
  injection h5 with _ h5
  exact hne h5.symm

theorem RoomAt.at {N : Nat} {W : World} {x : Fx} (h : RoomAt N W x) : x.at W := by
  obtain ⟨g, h1, _, _, h4⟩ := h
  refine Or.inr ⟨g, 0, h1, fun i hi => ?_⟩
  rw [Nat.zero_add, cell_of_row W g i _ _ _ h4]
  simp [List.getElem?_append, hi]

theorem RoomAt.mark {N : Nat} {W : World} {x : Fx} (h : RoomAt N W x) : ∃ g, x.p = some ⟨g, 0, none⟩ ∧ x.cap = x.txt.length + 2 ∧ W.cell? ⟨g, x.txt.length, none⟩ = some (.string markA) := by
  obtain ⟨g, h1, h2, _, h4⟩ := h
  refine ⟨g, h1, h2, ?_⟩
  rw [cell_of_row W g _ _ _ _ h4]
  simp

/-- What the first loop has made. -/
structure Ins (w : World) (e : List Fx) (vi vr : Value) (W : World) : Prop where
  row : RowX w.heap.size W vi e
  rooms : W.ownsRow w.heap.size 28 1 vr e.length (e.map Fx.sl)
  each : ∀ x ∈ e, RoomAt w.heap.size W x
  bel : Below w.heap.size w W

theorem Ins.on {w W W' : World} {e : List Fx} {vi vr : Value} (h : Ins w e vi vr W) (hb : Below W.heap.size W W') : Ins w e vi vr W' :=
  ⟨own_on h.row hb, own_on h.rooms hb, fun x hx => (h.each x hx).on hb, h.bel.trans (hb.mono h.bel.size)⟩

theorem Ins.is {w W : World} {e : List Fx} {vi vr : Value} (h : Ins w e vi vr W) : IsXs W vi e := h.row.is fun x hx => (h.each x hx).at

/-- The cells of a new room, the texts copied and the mark set. -/
theorem room_cells (ts : List ByteArray) : ((splice (List.replicate (ts.length + 2) (Value.string ⟨#[]⟩)) 0 (ts.map Value.string)).toArray.setIfInBounds ts.length (.string markA)) = (ts.map Value.string ++ [Value.string markA, Value.string ⟨#[]⟩]).toArray := by
  apply Array.toList_inj.1
  rw [Array.toList_setIfInBounds]
  simp only [splice, List.take_zero, List.nil_append, List.length_map, Nat.zero_add, List.drop_replicate]
  rw [show ts.length + 2 - ts.length = 2 by omega, List.set_append_right _ _ (by simp)]
  simp

theorem made_strs (n : Nat) : madeCells (Value.string ⟨#[]⟩).cells ((n + 2) * 1) = (List.replicate (n + 2) (Value.string ⟨#[]⟩)).toArray := by
  apply Array.toList_inj.1
  apply List.ext_getElem
  · simp [madeCells]
  · intro i h1 h2
    simp [madeCells, Value.cells]
    rw [Nat.mod_one]
    rfl

theorem own_same {w w' : World} {n0 : Nat} {e : TypeId} {size : Nat} {v : Value} {n : Nat} {xs : List Value} (h : w.ownsRow n0 e size v n xs) (hk : ∀ k, v.ownBlock = some k → w'.heap[k]? = w.heap[k]?) : w'.ownsRow n0 e size v n xs := by
  refine ⟨h.1, ?_⟩
  rcases h.2 with h2 | ⟨g, cap, cur, hv, h3, h4, h5⟩
  · exact Or.inl h2
  · exact Or.inr ⟨g, cap, cur, hv, h3, (hk g (by rw [hv]; rfl)).trans h4, h5⟩

/-- Blocks ahead of A, and from B up to C, are as they were. -/
structure KeptZ (A B C : Nat) (we W : World) : Prop where
  os : W.os = we.os
  tape : W.tape = we.tape
  output : W.output = we.output
  size : C ≤ W.heap.size
  block : ∀ k, k < C → (k < A ∨ B ≤ k) → W.heap[k]? = we.heap[k]?

def ZoneV (B C : Nat) (v : Value) : Prop := ∀ k, v.ownBlock = some k → k < B ∨ C ≤ k

theorem KeptZ.grown {A B C : Nat} {we W W' : World} {ob : Option Nat} (h : KeptZ A B C we W) (hg : W.grownBy W' ob) (hz : ∀ k, ob = some k → A ≤ k ∧ (k < B ∨ C ≤ k)) : KeptZ A B C we W' :=
  ⟨hg.os.trans h.os, hg.tape.trans h.tape, hg.output.trans h.output, Nat.le_trans h.size hg.size, fun k hk hz2 => (hg.block k (Nat.lt_of_lt_of_le hk h.size) fun e => by
    have := hz k e.symm
    omega).trans (h.block k hk hz2)⟩

theorem grown_alloc (w : World) (o : Obj) : w.grownBy (w.alloc o) none := by
  have := (Below.refl w.heap.size w).alloc (Nat.le_refl _) o
  exact ⟨this.os, this.tape, this.output, this.size, fun k hk _ => this.block k hk⟩

theorem KeptZ.below {A B C : Nat} {we W : World} (h : KeptZ A B C we W) (hAC : A ≤ C) (hC : we.heap.size ≤ C) : Below A we W :=
  ⟨h.os, h.tape, h.output, Nat.le_trans hC h.size, fun k hk => h.block k (by omega) (Or.inl hk)⟩

/-- The fields o, written over in place. -/
structure XSt (A B C : Nat) (we : World) (u : Value) (o : List Fx) (W : World) : Prop where
  own : OwnJ A W u o
  zu : ZoneV B C u
  zo : ∀ x ∈ o, ZoneV B C x.sl
  kept : KeptZ A B C we W

theorem cellsX_set (o : List Fx) (i : Nat) (h : i < o.length) (x : Fx) : cellsX (o.set i x) = ((cellsX o).set (i * 2) (.string x.name)).set (i * 2 + 1) x.sl := by
  induction o generalizing i with
  | nil => simp at h
  | cons y o ih =>
    have e : ∀ z l, cellsX (z :: l) = .string z.name :: z.sl :: cellsX l := fun _ _ => rfl
    cases i with
    | zero => rw [List.set_cons_zero, e, e]; rfl
    | succ i =>
      rw [List.set_cons_succ, e, e, ih i (by simpa using h), show (i + 1) * 2 = i * 2 + 1 + 1 by omega]
      rfl

theorem apart_ne {o : List Fx} (h : Apart o) {i j : Nat} (hi : i < o.length) (hj : j < o.length) (hne : i ≠ j) : (o[i]).sl.ownBlock = none ∨ (o[i]).sl.ownBlock ≠ (o[j]).sl.ownBlock := by
  have hp := List.pairwise_iff_getElem.1 h
  rcases Nat.lt_or_gt_of_ne hne with hl | hl
  · exact hp i j hi hj hl
  · rcases hp j i hj hi hl with h1 | h1
    · rcases hb : (o[i]).sl.ownBlock with _ | k
      · exact Or.inl rfl
      · right; rw [h1]; simp
    · exact Or.inr (Ne.symm h1)

theorem apart_set {o : List Fx} (h : Apart o) {i : Nat} (_hi : i < o.length) {x : Fx} (hx : ∀ j, (hj : j < o.length) → j ≠ i → (o[j]).sl.ownBlock = none ∨ (o[j]).sl.ownBlock ≠ x.sl.ownBlock) : Apart (o.set i x) := by
  have hp := List.pairwise_iff_getElem.1 h
  refine List.pairwise_iff_getElem.2 fun a b ha hb hab => ?_
  rw [List.length_set] at ha hb
  rw [List.getElem_set, List.getElem_set]
  by_cases h1 : i = a
  · subst h1
    rw [if_pos rfl, if_neg (by omega)]
    rcases hx b hb (by omega) with h2 | h2
    · rcases hq : x.sl.ownBlock with _ | k
      · exact Or.inl rfl
      · right; rw [h2]; simp
    · exact Or.inr (Ne.symm h2)
  · rw [if_neg h1]
    by_cases h2 : i = b
    · subst h2
      rw [if_pos rfl]
      exact hx a ha (by omega)
    · rw [if_neg h2]
      exact hp a b ha hb hab

/-- The row of fields u has its block. -/
theorem XSt.shape {A B C : Nat} {we W : World} {u : Value} {o : List Fx} (h : XSt A B C we u o W) (hpos : 0 < o.length) : ∃ g c, u = .slice (some ⟨g, 0, none⟩) o.length c := by
  rcases h.own.1.1.2 with ⟨_, h0⟩ | ⟨g, c, cur, hv, _⟩
  · omega
  · exact ⟨g, c, hv⟩

/-- What can be read of the field i, and that it can be written. -/
theorem XSt.cells {A B C : Nat} {we W : World} {g c n : Nat} {o : List Fx} (h : XSt A B C we (.slice (some ⟨g, 0, none⟩) n c) o W) (hn : o.length = n) {i : Nat} (hi : i < o.length) :
    W.cell? ⟨g, i * 2, none⟩ = some (.string (o[i]).name) ∧ W.cell? ⟨g, i * 2 + 1, none⟩ = some (o[i]).sl ∧ W.frozen? ⟨g, i * 2, none⟩ = false ∧ W.frozen? ⟨g, i * 2 + 1, none⟩ = false := by
  subst hn
  have hrow := h.own.1.1
  obtain ⟨h1, h2⟩ := cellsX_get o i hi
  exact ⟨by rw [hrow.cellAt _ (by omega)]; exact h1, by rw [hrow.cellAt _ (by omega)]; exact h2, hrow.frozenAt _, hrow.frozenAt _⟩

theorem sl_lt {A : Nat} {W : World} {x : Fx} (h : OwnT A W x.sl x.txt) : ∀ k, x.sl.ownBlock = some k → A ≤ k := fun k hk => (World.ownsRow.lt h k hk).1

/-- One text is written over. -/
theorem XSt.wipe {A B C : Nat} {we W : World} {u : Value} {o : List Fx} (h : XSt A B C we u o W) {i : Nat} (hi : i < o.length) {j gt : Nat} (hp : (o[i]).p = some ⟨gt, 0, none⟩) (t : ByteArray) :
    XSt A B C we u (o.set i ⟨(o[i]).name, (o[i]).p, (o[i]).cap, (o[i]).txt.set j t⟩) (W.setCell ⟨gt, j, none⟩ (.string t)) := by
  have hti := h.own.1.2 _ (List.getElem_mem hi)
  have hbi : (o[i]).sl.ownBlock = some gt := by unfold Fx.sl; rw [hp]; rfl
  have hg : W.grownBy (W.setCell ⟨gt, j, none⟩ (.string t)) (o[i]).sl.ownBlock := by rw [hbi]; exact grown_set W gt j _
  have hsl : (⟨(o[i]).name, (o[i]).p, (o[i]).cap, (o[i]).txt.set j t⟩ : Fx).sl = (o[i]).sl := by unfold Fx.sl; simp
  have hnew : OwnT A (W.setCell ⟨gt, j, none⟩ (.string t)) (o[i]).sl ((o[i]).txt.set j t) := by
    have e : (o[i]).sl = .slice (some ⟨gt, 0, none⟩) (o[i]).txt.length (o[i]).cap := by unfold Fx.sl; rw [hp]
    have h1 : W.ownsRow A 9 1 (.slice (some ⟨gt, 0, none⟩) (o[i]).txt.length (o[i]).cap) (o[i]).txt.length ((o[i]).txt.map Value.string) := by rw [← e]; exact hti
    have h2 := (h1.stored j (.string t)).1
    unfold OwnT
    rw [e, List.length_set, List.map_set]
    exact h2
  refine ⟨⟨⟨?_, fun x hx => ?_⟩, ?_⟩, h.zu, fun x hx => ?_, h.kept.grown hg fun k hk => ⟨sl_lt hti k hk, h.zo _ (List.getElem_mem hi) k hk⟩⟩
  · rw [List.length_set, cellsX_set _ _ hi, hsl]
    obtain ⟨c0, c1⟩ := cellsX_get o i hi
    have e1 : ((cellsX o).set (i * 2) (.string (o[i]).name)).set (i * 2 + 1) (o[i]).sl = cellsX o := by
      apply List.ext_getElem?
      intro q
      rw [List.getElem?_set, List.getElem?_set]
      simp only [List.length_set]
      have hl := cellsX_len o
      split
      · rename_i hq; subst hq; rw [if_pos (by omega)]; exact c1.symm
      · split
        · rename_i hq; subst hq; rw [if_pos (by omega)]; exact c0.symm
        · rfl
    rw [e1]
    exact own_else h.own.1.1 hti (by decide) hg
  · obtain ⟨q, hq, rfl⟩ := List.mem_iff_getElem.1 hx
    rw [List.length_set] at hq
    rw [List.getElem_set]
    by_cases e : i = q
    · rw [if_pos e, hsl]; exact hnew
    · rw [if_neg e]
      exact World.ownsRow.kept (h.own.1.2 _ (List.getElem_mem hq)) hg (apart_ne h.own.2 hq hi (by omega))
  · refine apart_set h.own.2 hi fun q hq hne => ?_
    rw [hsl]
    exact apart_ne h.own.2 hq hi hne
  · obtain ⟨q, hq, rfl⟩ := List.mem_iff_getElem.1 hx
    rw [List.length_set] at hq
    rw [List.getElem_set]
    by_cases e : i = q
    · rw [if_pos e, hsl]; exact h.zo _ (List.getElem_mem hi)
    · rw [if_neg e]; exact h.zo _ (List.getElem_mem hq)

/-- The name is written over. -/
theorem XSt.rename {A B C : Nat} {we W : World} {g c n : Nat} {o : List Fx} (h : XSt A B C we (.slice (some ⟨g, 0, none⟩) n c) o W) (hn : o.length = n) {i : Nat} (hi : i < o.length) (nm : ByteArray) :
    XSt A B C we (.slice (some ⟨g, 0, none⟩) n c) (o.set i ⟨nm, (o[i]).p, (o[i]).cap, (o[i]).txt⟩) (W.setCell ⟨g, i * 2, none⟩ (.string nm)) := by
  subst hn
  have hrow := h.own.1.1
  have hg : W.grownBy (W.setCell ⟨g, i * 2, none⟩ (.string nm)) (Value.slice (some ⟨g, 0, none⟩) o.length c).ownBlock := grown_set W g _ _
  have hsl : (⟨nm, (o[i]).p, (o[i]).cap, (o[i]).txt⟩ : Fx).sl = (o[i]).sl := rfl
  refine ⟨⟨⟨?_, fun x hx => ?_⟩, ?_⟩, h.zu, fun x hx => ?_, h.kept.grown hg fun k hk => ⟨(World.ownsRow.lt hrow k hk).1, h.zu k hk⟩⟩
  · have hst := (hrow.stored (i * 2) (.string nm)).1
    rw [List.length_set, cellsX_set _ _ hi, hsl]
    have e1 : ((cellsX o).set (i * 2) (.string nm)).set (i * 2 + 1) (o[i]).sl = (cellsX o).set (i * 2) (.string nm) := by
      apply List.ext_getElem?
      intro q
      rw [List.getElem?_set]
      split
      · rename_i hq
        subst hq
        rw [if_pos (by rw [List.length_set, cellsX_len]; omega), List.getElem?_set_ne (by omega)]
        exact ((cellsX_get o i hi).2).symm
      · rfl
    rw [e1]
    exact hst
  · obtain ⟨q, hq, rfl⟩ := List.mem_iff_getElem.1 hx
    rw [List.length_set] at hq
    rw [List.getElem_set]
    by_cases e : i = q
    · rw [if_pos e]; exact own_else (show W.ownsRow A 9 1 (o[i]).sl (o[i]).txt.length ((o[i]).txt.map Value.string) from h.own.1.2 _ (List.getElem_mem hi)) hrow (by decide) hg
    · rw [if_neg e]; exact own_else (h.own.1.2 _ (List.getElem_mem hq)) hrow (by decide) hg
  · refine apart_set h.own.2 hi fun q hq hne => ?_
    rw [hsl]
    exact apart_ne h.own.2 hq hi hne
  · obtain ⟨q, hq, rfl⟩ := List.mem_iff_getElem.1 hx
    rw [List.length_set] at hq
    rw [List.getElem_set]
    by_cases e : i = q
    · rw [if_pos e, hsl]; exact h.zo _ (List.getElem_mem hi)
    · rw [if_neg e]; exact h.zo _ (List.getElem_mem hq)

/-- A block more, that nobody owns. -/
theorem XSt.alloc {A B C : Nat} {we W : World} {u : Value} {o : List Fx} (h : XSt A B C we u o W) (ob : Obj) : XSt A B C we u o (W.alloc ob) :=
  ⟨h.own.on ((Below.refl _ _).alloc (Nat.le_refl _) _), h.zu, h.zo, h.kept.grown (grown_alloc W ob) fun k hk => by cases hk⟩

/-- The texts have grown by one, and are stored back. -/
theorem XSt.grow {A B C : Nat} {we W W4 : World} {g c n : Nat} {o : List Fx} (h : XSt A B C we (.slice (some ⟨g, 0, none⟩) n c) o W) (hn : o.length = n) {i : Nat} (hi : i < o.length) {p : Option Addr} {m cap : Nat} {ts : List ByteArray}
    (hm : ts.length = m) (hown : W4.ownsRow A 9 1 (.slice p m cap) m (ts.map Value.string)) (hg : W.grownBy W4 (o[i]).sl.ownBlock) (hat : (Value.slice p m cap).ownBlock = (o[i]).sl.ownBlock ∨ (Value.slice p m cap).ownBlock = some W.heap.size) :
    W4.cell? ⟨g, i * 2 + 1, none⟩ = some (o[i]).sl ∧ W4.frozen? ⟨g, i * 2 + 1, none⟩ = false ∧
      XSt A B C we (.slice (some ⟨g, 0, none⟩) n c) (o.set i ⟨(o[i]).name, p, cap, ts⟩) (W4.setCell ⟨g, i * 2 + 1, none⟩ (.slice p m cap)) := by
  subst hn
  subst hm
  have hrow := h.own.1.1
  have hti := h.own.1.2 _ (List.getElem_mem hi)
  have hrow4 : W4.ownsRow A 30 2 (.slice (some ⟨g, 0, none⟩) o.length c) o.length (cellsX o) := own_else hrow hti (by decide) hg
  have hset : W4.grownBy (W4.setCell ⟨g, i * 2 + 1, none⟩ (.slice p ts.length cap)) (Value.slice (some ⟨g, 0, none⟩) o.length c).ownBlock := grown_set W4 g _ _
  have hk4 : KeptZ A B C we W4 := h.kept.grown hg fun k hk => ⟨sl_lt hti k hk, h.zo _ (List.getElem_mem hi) k hk⟩
  have hzn : ZoneV B C (.slice p ts.length cap) := fun k hk => by
    rcases hat with e | e
    · exact h.zo _ (List.getElem_mem hi) k (by rw [← e]; exact hk)
    · have := h.kept.size
      rw [e] at hk
      have : W.heap.size = k := by simpa using hk
      omega
  refine ⟨by rw [hrow4.cellAt _ (by omega)]; exact (cellsX_get o i hi).2, hrow4.frozenAt _, ⟨⟨⟨?_, fun x hx => ?_⟩, ?_⟩, h.zu, fun x hx => ?_, hk4.grown hset fun k hk => ⟨(World.ownsRow.lt hrow k hk).1, h.zu k hk⟩⟩⟩
  · have hst := (hrow4.stored (i * 2 + 1) (.slice p ts.length cap)).1
    rw [List.length_set, cellsX_set _ _ hi]
    have e1 : (cellsX o).set (i * 2) (.string (o[i]).name) = cellsX o := by
      apply List.ext_getElem?
      intro q
      rw [List.getElem?_set]
      split
      · rename_i hq
        subst hq
        rw [if_pos (by rw [cellsX_len]; omega)]
        exact ((cellsX_get o i hi).1).symm
      · rfl
    rw [e1]
    exact hst
  · obtain ⟨q, hq, rfl⟩ := List.mem_iff_getElem.1 hx
    rw [List.length_set] at hq
    rw [List.getElem_set]
    by_cases e : i = q
    · rw [if_pos e]; exact own_else (show W4.ownsRow A 9 1 (.slice p ts.length cap) ts.length (ts.map Value.string) from hown) hrow4 (by decide) hset
    · rw [if_neg e]
      have hy4 : W4.ownsRow A 9 1 (o[q]).sl (o[q]).txt.length ((o[q]).txt.map Value.string) := World.ownsRow.kept (h.own.1.2 _ (List.getElem_mem hq)) hg (apart_ne h.own.2 hq hi (by omega))
      exact own_else hy4 hrow4 (by decide) hset
  · refine apart_set h.own.2 hi fun q hq hne => ?_
    show (o[q]).sl.ownBlock = none ∨ (o[q]).sl.ownBlock ≠ (Value.slice p ts.length cap).ownBlock
    rcases hat with e | e
    · rw [e]; exact apart_ne h.own.2 hq hi hne
    · rcases hb : (o[q]).sl.ownBlock with _ | k
      · exact Or.inl rfl
      · right
        have := (World.ownsRow.lt (h.own.1.2 _ (List.getElem_mem hq)) k hb).2
        rw [e]
        intro e2
        simp at e2; omega
  · obtain ⟨q, hq, rfl⟩ := List.mem_iff_getElem.1 hx
    rw [List.length_set] at hq
    rw [List.getElem_set]
    by_cases e : i = q
    · rw [if_pos e]; exact hzn
    · rw [if_neg e]; exact h.zo _ (List.getElem_mem hq)

/-- What Norm answers, its rows apart. -/
def NJPost (w : World) (fs : List Fld) (e : Ending) (w' : World) : Prop :=
  (∃ u o, e = .returned (.tuple #[u, .int .i64 (codeF fs)]) ∧ OwnJ w.heap.size w' u o ∧ o.map Fx.fld = ansF fs) ∧ Below w.heap.size w w'

theorem own_noneJ (N : Nat) (w : World) : OwnJ N w (.slice none 0 0) [] := ⟨own_none _ _, List.Pairwise.nil⟩

theorem norm_apart (v : Value) (d : List Fx) (w : World) (hv : IsXs w v d) (hf : FitX d) (hl : d.length * 40 ≤ 140737488355328) (htot : totF (d.map Fx.fld) * 16 ≤ 140737488355328) :
    Calls Tryd.prog 7 #[v] w fun e w' => NJPost w (d.map Fx.fld) e w' := by
  refine (norm_any v d w hv hf hl htot).mono fun e w' h => ⟨?_, h.2⟩
  rcases h.ans.plain with ⟨h1, rfl⟩ | ⟨h1, ⟨h2, rfl⟩ | ⟨h2, h3, rfl⟩ | ⟨h2, h3, u, o, rfl, ho, hm⟩⟩
  · have hc : codeF (d.map Fx.fld) = 2 := by unfold codeF; rw [h1]; rfl
    exact ⟨_, [], by rw [hc], own_noneJ _ _, by unfold ansF; rw [hc]; rfl⟩
  · have hc : codeF (d.map Fx.fld) = 3 := by unfold codeF; rw [h1, h2]; rfl
    exact ⟨_, [], by rw [hc], own_noneJ _ _, by unfold ansF; rw [hc]; rfl⟩
  · have hc : codeF (d.map Fx.fld) = 5 := by unfold codeF; rw [h1, h2, h3]; rfl
    exact ⟨_, [], by rw [hc], own_noneJ _ _, by unfold ansF; rw [hc]; rfl⟩
  · have hc : codeF (d.map Fx.fld) = 0 := by unfold codeF; rw [h1, h2, h3]; rfl
    exact ⟨u, o, by rw [hc], ho, by unfold ansF; rw [hc]; exact hm⟩

theorem ans_small {fs : List Fld} : ∀ f ∈ ansF fs, f.2.length ≤ 8 := by
  unfold ansF
  split
  · rename_i h
    exact fun f hf => (fits_parts (may_fits (codeF_zero h).2.2 f hf)).2.2.1
  · intro f hf; simp at hf

end Go.Proofs.YtmjchokacmbkoabDoor

/-
  ValueKeeps answers true, where the fields and their texts are few enough to be copied.
-/
namespace Go.Proofs.YtmjchokacmbkoabDoor
open Go.RowKit Go.Lib

theorem strs_size : (Tryd.prog.info? 9).map (·.size) = some 1 := by kernel_rfl

theorem splice_at (ts : List ByteArray) : (splice (List.replicate (ts.length + 2) (Value.string ⟨#[]⟩)) 0 (ts.map Value.string))[ts.length]? = some (.string ⟨#[]⟩) := by
  simp [splice]

theorem new_one {T : TypeId} (w : World) (u : Value) : ∀ m x, ([u] : List Value)[m]? = some x → (w.alloc (.cells #[u] T)).cell? ((⟨w.heap.size, 0, none⟩ : Addr).add m) = some x := by
  intro m x hm
  match m, hm with
  | 0, hm => simp at hm; subst hm; simp [Addr.add]

theorem sl_one (p : Option Addr) (n c : Nat) : ∀ u ∈ ([.slice p n c] : List Value), u.oneCell' = true := by
  intro u hu; simp at hu; subst hu; rfl

theorem copy_room (W : World) (g n xc : Nat) (xp : Option Addr) (L0 T1 : List Value) (hT : T1.length = n) (hL : L0.length = n + 2) (hg : W.heap[g]? = some (.cells L0.toArray 9 (0, 0)))
    (hsrc : 0 < T1.length → ∃ ad, xp = some ad ∧ ∀ j u, T1[j]? = some u → W.cell? (ad.add j) = some u) (h1 : ∀ u ∈ T1, u.oneCell' = true) :
    ∃ w3, (∀ ty, (Builtin.copy_ #[28, 28] ty #[.slice (some ⟨g, 0, none⟩) n (n + 2), .slice xp n xc]).run Tryd.prog W = .ok (goInt n) w3) ∧ w3.heap[g]? = some (.cells (splice L0 0 T1).toArray 9 (0, 0)) ∧ W.grownBy w3 (some g) := by
  subst hT
  by_cases h0 : T1.length = 0
  · obtain rfl := List.length_eq_zero_iff.1 h0
    refine ⟨W, fun ty => run_copy_none (P := Tryd.prog) W _ _ ty 9 _ _ 0 _ 0 _ Tryd.underlying28 strs_size rfl, ?_, grownBy_refl _ _⟩
    rw [hg]
    simp [splice]
  · obtain ⟨ad, rfl, hs⟩ := hsrc (by omega)
    refine ⟨_, fun ty => run_copy_row (P := Tryd.prog) W _ _ ty 9 g 0 T1.length (T1.length + 2) ad T1.length xc L0.toArray 9 T1 Tryd.underlying28 strs_size hg (by simp) hs (by simp; omega) h1, ?_, ?_⟩
    · rw [setRow_heap W g _ _ _ _ hg]
      simp [splice]
    · exact ⟨rfl, rfl, rfl, by simp [World.setRow], fun k _ hne => setRow_other W g k _ (fun e => hne (by rw [e]))⟩

theorem txt_one1 (t : ByteArray) : ∀ u ∈ ([.string t] : List Value), u.oneCell' = true := by
  intro u hu; simp at hu; subst hu; rfl

theorem textsOf_len (fs : List Fld) (nm : ByteArray) : (textsOf fs nm).length ≤ totF fs := by
  unfold textsOf
  cases hfd : fs.find? fun f => decide (f.1 = nm) with
  | none => simp
  | some f => exact totF_mem (List.mem_of_find?_eq_some hfd)

/-- One room more. -/
theorem room_new {w3 : World} {N S : Nat} {nm : ByteArray} {xt : List ByteArray} (hN : N ≤ S + 1) (h : w3.heap[S + 1]? = some (.cells (splice (List.replicate (xt.length + 2) (Value.string ⟨#[]⟩)) 0 (xt.map Value.string)).toArray 9 (0, 0))) :
    RoomAt N (w3.setCell ⟨S + 1, xt.length, none⟩ (.string markA)) ⟨nm, some ⟨S + 1, 0, none⟩, xt.length + 2, xt⟩ := by
  refine ⟨S + 1, rfl, rfl, hN, ?_⟩
  rw [heap_setCell_same w3 (S + 1) xt.length _ _ _ h, room_cells]

set_option maxHeartbeats 8000000 in
set_option maxRecDepth 100000 in
theorem keeps_any (v : Value) (d : List Fx) (w : World) (hp : PlainAt w) (hv : IsXs w v d) (hf : FitX d) (hl : d.length ≤ 2000000) (htot : totF (d.map Fx.fld) ≤ 2000000) :
    Calls Tryd.prog 4 #[v] w fun e w' => e = .returned (.bool true) ∧ Below w.heap.size w w' := by
  obtain ⟨j0, hj0, hy0, hy1, hy2⟩ := info_parts Tryd.infoFld
  obtain ⟨i0, hi0, hz0, hz1, hz2⟩ := info_parts Tryd.infoStr
  obtain ⟨k0, hk0, hx0, hx1, hx2⟩ := info_parts Tryd.infoTs
  have HJ := hid hj0
  have HI := hid hi0
  have HK := hid hk0
  have HMK : Hid (∀ (n : Nat), n ≤ 2000000 → ∀ W : World, (Instr.makeSlice 28 (.int .i64 (n : Int)) (.int .i64 ((n : Int) + 2))).run Tryd.prog W = .ok (.slice (some ⟨W.heap.size, 0, none⟩) n (n + 2)) (W.alloc (.cells (List.replicate (n + 2) (Value.string ⟨#[]⟩)).toArray 9))) := fun n hn W => by
    have := run_make (P := Tryd.prog) W 28 9 i0 (.string ⟨#[]⟩) Tryd.underlying28 hi0 hz0 .i64 .i64 (n : Int) ((n : Int) + 2) (by omega) (by omega) (by rw [hz2]; omega) (by omega)
    rw [this, hz1, show ((n : Int) + 2).toNat = n + 2 by omega, made_strs, Int.toNat_natCast]
  have HV := hid hv
  have HF := hid hf
  have HP := hid hp
  have HTOT := hid htot
  obtain ⟨pv, cv, rfl, hdv, htv⟩ := HV.out
  have HDV := hid hdv
  have HTV := hid htv
  clear hj0 hi0 hk0 hv hf hp htot hdv htv
  go_enter Tryd.func4, Tryd.ntmps4
  go_wp2_with (first
    | (go_at_call 6; refine (fixed_any _ HP.out).mono ?_; rintro e w1 ⟨rfl, q1⟩))
  have IN0 : Hid (Ins w [] (.slice none 0 0) (.slice none 0 0) w1) := ⟨World.ownsRow_nil _ _ _ _, World.ownsRow_nil _ _ _ _, fun x hx => by simp at hx, q1⟩
  clear q1
  go_loopg [3, 4, 23] d.length (fun g vi vr vk ws => ∃ (i : Nat) (e : List Fx), vk = .int .i64 i ∧ i ≤ d.length ∧ d.length - i ≤ g ∧ Hid (e.length = i) ∧ Hid (e.map Fx.fld = (d.map Fx.fld).take i) ∧ Hid (Ins w e vi vr ws))
  case atStart => exact ⟨0, [], rfl, by omega, by omega, rfl, (show Hid _ from by simp [Hid]), IN0⟩
  case round =>
  clear IN0
  obtain ⟨i, e, rfl, hi, hgk, HEL, HEM, HIN⟩ := hrel
  by_cases hlt : i < d.length
  · have hltz : (i : Int) < (d.length : Int) := by omega
    have hiz : (0 : Int) ≤ (i : Int) := by omega
    obtain ⟨b, off, rfl, hxs⟩ : ∃ b off, pv = some ⟨b, off, none⟩ ∧ XsAt w b off d := by
      rcases HDV.out with h | h
      · subst h; simp at hlt
      · exact h
    obtain ⟨c0, c1⟩ := hxs.kept HIN.out.bel i hlt
    unfold Fx.sl at c1
    have hxt := HTV.out _ (List.getElem_mem hlt)
    have hem : (d.map Fx.fld).take (i + 1) = (d.map Fx.fld).take i ++ [(d[i]).fld] := by
      rw [List.take_succ_eq_append_getElem (by simpa using hlt)]; simp
    have hxl : (d[i]).txt.length ≤ 2000000 := by
      have h1 := totF_mem (List.mem_map.2 ⟨_, List.getElem_mem hlt, rfl⟩ : (d[i]).fld ∈ d.map Fx.fld)
      have h2 := HTOT.out
      have e : (d[i]).fld.2.length = (d[i]).txt.length := rfl
      omega
    obtain ⟨x, hx⟩ : ∃ x, d[i] = x := ⟨_, rfl⟩
    rw [hx] at c0 c1 hxt hem hxl
    obtain ⟨nm, xp, xc, xt⟩ := x
    simp only at c0 c1 hxl
    have hxt2 : TxtAt w xp xt := hxt
    have HXT := hid hxt2
    have HM1 := hid hem
    have hmk := HMK.out xt.length hxl
    obtain ⟨L0, hL0⟩ : ∃ L0, List.replicate (xt.length + 2) (Value.string ⟨#[]⟩) = L0 := ⟨_, rfl⟩
    rw [hL0] at hmk
    obtain ⟨T1, hT1⟩ : ∃ T1, xt.map Value.string = T1 := ⟨_, rfl⟩
    have HL0 := hid hL0
    have HT1 := hid hT1
    have hT1l : T1.length = xt.length := by rw [← hT1]; simp
    have HTL := hid hT1l
    have hL0l : L0.length = xt.length + 2 := by rw [← hL0]; simp
    have HLL := hid hL0l
    have HT1O : Hid (∀ u ∈ T1, u.oneCell' = true) := by show ∀ u ∈ T1, _; rw [← hT1]; exact txts_one _
    obtain ⟨S, hS⟩ : ∃ S, wr.heap.size = S := ⟨_, rfl⟩
    have HS := hid hS
    have hwS := HIN.out.bel.size
    rw [hS] at hwS
    have HSRC : Hid (∀ W, Below w.heap.size w W → 0 < T1.length → ∃ ad, xp = some ad ∧ ∀ j u, T1[j]? = some u → W.cell? (ad.add j) = some u) := fun W hW hpos => by
      rcases src_ts (HXT.out.kept hW) with h | h
      · omega
      · rw [← hT1]; exact h
    clear hxs hxt hxt2 hx hem hL0 hT1 hT1l hL0l
    obtain ⟨W2, hW2⟩ : ∃ W2, (wr.alloc (.cells #[.string nm, .slice xp xt.length xc] 30)).alloc (.cells L0.toArray 9) = W2 := ⟨_, rfl⟩
    have hbw2 : Below wr.heap.size wr W2 := by rw [← hW2]; exact ((Below.refl _ _).alloc (Nat.le_refl _) _).alloc (by simp) _
    obtain ⟨w3, hcp, h3, hg3⟩ := copy_room W2 (S + 1) xt.length xc xp L0 T1 HTL.out HLL.out (by rw [← hW2, ← hS]; have := heap_alloc_new (wr.alloc (.cells #[.string nm, .slice xp xt.length xc] 30)) (.cells L0.toArray 9); rw [World.size_alloc] at this; exact this) (HSRC.out W2 (bel_then HIN.out.bel HIN.out.bel.size hbw2)) HT1O.out
    rw [← HL0.out, ← HT1.out] at h3
    have hbox2 : W2.heap[S]? = some (.cells #[.string nm, .slice xp xt.length xc] 30 (0, 0)) := by
      rw [← hW2, ← hS]
      exact (Below.heap_alloc _ _ _ (by simp)).trans (heap_alloc_new wr _)
    obtain ⟨k20, k21, _, _⟩ := box_facts hbox2
    have hw2S : W2.heap.size = S + 2 := by rw [← hW2]; simp [hS]
    have hbox3 : w3.heap[S]? = some (.cells #[.string nm, .slice xp xt.length xc] 30 (0, 0)) := (hg3.block S (by omega) (by simp)).trans hbox2
    have cm : w3.cell? ⟨S + 1, xt.length, none⟩ = some (.string ⟨#[]⟩) := by
      rw [cell_of_row w3 (S + 1) _ _ _ _ h3, ← splice_at xt]
      simp
    have fm : w3.frozen? ⟨S + 1, xt.length, none⟩ = false := Lib.frozen_of_heap h3 _
    have hbw3 : Below wr.heap.size wr w3 := hbw2.grown hg3 (by omega) (fun k hk => by cases hk; omega)
    have hsz3 := hg3.size
    have H3 := hid h3
    have HBX3 := hid hbox3
    have HBW3 := hid hbw3
    have n1 : (0 : Int) ≤ (xt.length : Int) + 2 := by omega
    have n2 : (xt.length : Int) < (xt.length : Int) + 2 := by omega
    clear h3 hbox3 hbox2 hbw3 hg3 hbw2 hw2S
    go_upto_region 11 with fail
    clear k20 k21 cm fm hcp hmk c0 c1
    obtain ⟨W4, hW4⟩ : ∃ W4, w3.setCell ⟨S + 1, xt.length, none⟩ (.string ⟨#[109, 97, 114, 107]⟩) = W4 := ⟨_, rfl⟩
    rw [hW4]
    have hsz4 : w3.heap.size ≤ W4.heap.size := by rw [← hW4]; simp [World.setCell]
    have hw2s : S + 2 ≤ W2.heap.size := by rw [← hW2]; simp; omega
    have hb4 : Below wr.heap.size wr W4 := by rw [← hW4]; exact HBW3.out.setCell (p := ⟨S + 1, xt.length, none⟩) (by show _ ≤ S + 1; omega) _
    have hr4 : RoomAt w.heap.size W4 ⟨nm, some ⟨S + 1, 0, none⟩, xt.length + 2, xt⟩ := by rw [← hW4]; exact room_new (by omega) H3.out
    have hbx4 : W4.heap[S]? = some (.cells #[.string nm, .slice xp xt.length xc] 30 (0, 0)) := by
      rw [← hW4]
      exact (Below.heap_setCell w3 _ _ S (by show S ≠ S + 1; omega)).trans HBX3.out
    obtain ⟨W5, hW5⟩ : ∃ W5, W4.alloc (.cells #[.slice (some ⟨S + 1, 0, none⟩) xt.length (xt.length + 2)] 28) = W5 := ⟨_, rfl⟩
    have hb45 : Below W4.heap.size W4 W5 := by rw [← hW5]; exact (Below.refl _ _).alloc (Nat.le_refl _) _
    have HIN5 := hid ((HIN.out.on hb4).on hb45)
    have HR5 := hid (hr4.on hb45)
    have HBX5 : Hid (W5.heap[S]? = some (.cells #[.string nm, .slice xp xt.length xc] 30 (0, 0))) := (hb45.block S (by omega)).trans hbx4
    have HN5 : Hid (∀ m x, ([.slice (some ⟨S + 1, 0, none⟩) xt.length (xt.length + 2)] : List Value)[m]? = some x → W5.cell? ((⟨W4.heap.size, 0, none⟩ : Addr).add m) = some x) := by
      rw [← hW5]; exact new_one W4 _
    have hs45 := hb45.size
    have hs4 := hb4.size
    have hw5 : w.heap.size ≤ W5.heap.size := by omega
    have hel : e.length ≤ 2000000 := by have := HEL.out; omega
    clear hW4 hb4 hr4 hbx4 hb45 hW2 H3 HBX3 HBW3
    go_wp2_with (first | (at_builtin; refine wpList_append_own _ rfl _ _ 33 rfl w.heap.size 28 k0 (.slice none 0 0) 1 24 Tryd.underlying33 HK.out hx0 hx1 hx2 rfl (by decide) _ _ _ rfl HIN5.out.rooms ⟨W4.heap.size, 0, none⟩ 1 1 [.slice (some ⟨S + 1, 0, none⟩) xt.length (xt.length + 2)] rfl rfl HN5.out (sl_one _ _ _) (by unfold maxLen; omega) (by omega) hw5 ?_))
    intro v6 w6 hown6 hg6 _
    have HRW6 := hid (own_else HIN5.out.row HIN5.out.rooms (by decide) hg6)
    have HEA6 : Hid (∀ x ∈ e, RoomAt w.heap.size w6 x) := fun x hx => (HIN5.out.each x hx).else HIN5.out.rooms (by decide) hg6
    have HR6 := hid (HR5.out.else HIN5.out.rooms (by decide) hg6)
    have hbx6 : w6.heap[S]? = some (.cells #[.string nm, .slice xp xt.length xc] 30 (0, 0)) := by
      refine (hg6.block S (Array.getElem?_eq_some_iff.1 HBX5.out).1 fun e2 => ?_).trans HBX5.out
      obtain ⟨cs', h5⟩ := own_type HIN5.out.rooms e2.symm
      rw [HBX5.out] at h5
      injection h5 with h5
      injection h5 with _ h5
      exact absurd h5 (by decide)
    obtain ⟨k60, k61, _, _⟩ := box_facts hbx6
    have HB6 : Hid (Below w.heap.size w w6) := HIN5.out.bel.grown hg6 hw5 (fun k hk => (World.ownsRow.lt HIN5.out.rooms k hk).1)
    have HO6 := hid hown6
    have hs6 := hg6.size
    clear hown6 hg6 hbx6
    obtain ⟨W7, hW7⟩ : ∃ W7, w6.alloc (.cells #[.string nm, .slice (some ⟨S + 1, 0, none⟩) xt.length (xt.length + 2)] 30) = W7 := ⟨_, rfl⟩
    have hb67 : Below w6.heap.size w6 W7 := by rw [← hW7]; exact (Below.refl _ _).alloc (Nat.le_refl _) _
    have HRW7 := hid (own_on HRW6.out hb67)
    have HO7 := hid (own_on HO6.out hb67)
    have HEA7 : Hid (∀ x ∈ e, RoomAt w.heap.size W7 x) := fun x hx => (HEA6.out x hx).on hb67
    have HR7 := hid (HR6.out.on hb67)
    have HC7 := hid (news_x w6 ⟨nm, some ⟨S + 1, 0, none⟩, xt.length + 2, xt⟩)
    simp only at HC7
    rw [hW7] at HC7
    have HB7 : Hid (Below w.heap.size w W7) := bel_then HB6.out HB6.out.size hb67
    have hw7 := HB7.out.size
    clear hb67
    go_wp2_with (first | (at_builtin; refine wpList_append_own _ rfl _ _ 22 rfl w.heap.size 30 j0 (.agg #[.string ⟨#[]⟩, .slice none 0 0]) 2 40 Tryd.underlying22 HJ.out hy0 hy1 hy2 rfl (by decide) _ _ _ rfl HRW7.out ⟨w6.heap.size, 0, none⟩ 1 1 (cellsX [⟨nm, some ⟨S + 1, 0, none⟩, xt.length + 2, xt⟩]) rfl rfl HC7.out (cellsX_one _) (by unfold maxLen; omega) (by omega) hw7 ?_))
    intro v8 w8 hown8 hg8 _
    have HIN8 : Hid (Ins w (e ++ [⟨nm, some ⟨S + 1, 0, none⟩, xt.length + 2, xt⟩]) v8 v6 w8) := by
      refine ⟨?_, ?_, fun x hx => ?_, HB7.out.grown hg8 hw7 (fun k hk => (World.ownsRow.lt HRW7.out k hk).1)⟩
      · unfold RowX; rw [cellsX_append, List.length_append]; exact hown8
      · rw [List.length_append, List.map_append]
        exact own_else HO7.out HRW7.out (by decide) hg8
      · rw [List.mem_append, List.mem_singleton] at hx
        rcases hx with hx | rfl
        · exact (HEA7.out x hx).else HRW7.out (by decide) hg8
        · exact HR7.out.else HRW7.out (by decide) hg8
    have HEL8 : Hid ((e ++ [(⟨nm, some ⟨S + 1, 0, none⟩, xt.length + 2, xt⟩ : Fx)]).length = i + 1) := by show _ = _; rw [List.length_append, HEL.out]; rfl
    have HEM8 : Hid ((e ++ [(⟨nm, some ⟨S + 1, 0, none⟩, xt.length + 2, xt⟩ : Fx)]).map Fx.fld = (d.map Fx.fld).take (i + 1)) := by show _ = _; rw [List.map_append, HEM.out, HM1.out]; rfl
    clear hown8 hg8 k60 k61
    go_wp2_with fail
    go_roundg (d.length - (i + 1))
    case measure => omega
    case rel => exact ⟨i + 1, _, by go_num, by omega, by omega, HEL8, HEM8, HIN8⟩
  have hltz : ¬ (i : Int) < (d.length : Int) := by omega
  have hfe : e.map Fx.fld = d.map Fx.fld := by
    have h1 := HEM.out
    rwa [List.take_of_length_le (by rw [List.length_map]; omega)] at h1
  have HFE := hid hfe
  clear hfe HEM
  obtain ⟨wa, hwa⟩ : ∃ wa, wr = wa := ⟨_, rfl⟩
  subst hwa
  obtain ⟨pi, ci, hvi, hdi, hti⟩ := HIN.out.is
  subst hvi
  obtain ⟨pr, cr, hvr⟩ : ∃ p c, u4 = .slice p e.length c := by
    rcases HIN.out.rooms.2 with ⟨hv, h0⟩ | ⟨g, c, cur, hv, _⟩
    · exact ⟨none, 0, by rw [hv, h0]⟩
    · exact ⟨_, c, hv⟩
  subst hvr
  have hel : e.length ≤ 2000000 := by have := HEL.out; omega
  have hte : totF (e.map Fx.fld) ≤ 2000000 := by rw [HFE.out]; exact HTOT.out
  have hfx : FitX e := ⟨by unfold maxLen; omega, fun x hx => by
    have : x.fld ∈ d.map Fx.fld := by rw [← HFE.out]; exact List.mem_map.2 ⟨x, hx, rfl⟩
    obtain ⟨y, hy, ey⟩ := List.mem_map.1 this
    rw [← ey]; exact HF.out.2 y hy⟩
  have HFX := hid hfx
  have HNA := hid (norm_apart _ e wr HIN.out.is hfx (by omega) (by omega))
  have HNB : Hid (∀ W, Below wr.heap.size wr W → Calls Tryd.prog 7 #[.slice pi e.length ci] W fun q w' => NPost W (e.map Fx.fld) q w') := fun W hW => norm_plain _ e W (HIN.out.on hW).is HFX.out (by omega) (by omega)
  rw [HFE.out] at HNA HNB
  have HNR : Hid (∀ W, Below w.heap.size w W → Calls Tryd.prog 13 #[.slice pv d.length cv] W fun q w' => NPost W (d.map Fx.fld) q w') := fun W hW => rnorm_plain _ d W (HV.out.kept hW) HF.out (by omega) (by have := HTOT.out; omega)
  obtain ⟨fs, hfs⟩ : ∃ fs, d.map Fx.fld = fs := ⟨_, rfl⟩
  rw [hfs] at HNA HNB HNR HFE
  have HFS := hid hfs
  clear hfs hfx hdi hti hte
  go_wp2_with fail
  refine HNA.out.mono ?_
  rintro q wb ⟨⟨ux, ox, rfl, o1, m1⟩, q1⟩
  obtain ⟨px, cx, hux⟩ := own_len o1.1
  subst hux
  have O1 := hid o1
  have M1 := hid m1
  have Q1 := hid q1
  clear o1 m1 q1 HNA
  go_wp2_with fail
  refine (HNB.out wb Q1.out).mono ?_
  rintro q wc ⟨⟨uy, oy, rfl, o2, m2⟩, q2⟩
  have O2 := hid o2
  have M2 := hid m2
  have Q2 := hid q2
  have BC := hid (bel_then Q1.out Q1.out.size q2)
  clear o2 m2 q2 HNB
  go_wp2_with fail
  refine (HNR.out wc (bel_then HIN.out.bel HIN.out.bel.size BC.out)).mono ?_
  rintro q wd ⟨⟨uw, ow, rfl, o3, m3⟩, q3⟩
  have O3 := hid o3
  have M3 := hid m3
  have Q3 := hid q3
  have BD := hid (bel_then BC.out BC.out.size q3)
  have HSM := hid (same_any (.slice px ox.length cx) uw ox ow (codeF fs) wd (O1.out.1.on (bel_then Q2.out Q2.out.size q3)).is o3.is (ans_fit M1.out) (ans_fit m3))
  rw [show decide (ox.map Fx.fld = ow.map Fx.fld) = true from decide_eq_true (M1.out.trans m3.symm)] at HSM
  clear o3 m3 q3 HNR
  go_wp2_with (first
    | (go_at_call 14; refine HSM.out.mono ?_; rintro q w9 ⟨rfl, n1, rfl⟩; have HSF := hid (sameF_any _ _ e d (wd.drewN n1) ((HIN.out.on (bel_drewN BD.out n1)).is) (HV.out.kept (bel_then HIN.out.bel HIN.out.bel.size (bel_drewN BD.out n1))) HFX.out HF.out); rw [show decide (e.map Fx.fld = d.map Fx.fld) = true from decide_eq_true (HFE.out.trans HFS.out.symm)] at HSF)
    | (go_at_call 11; refine HSF.out.mono ?_; rintro q w10 ⟨rfl, n2, rfl⟩))
  obtain ⟨A, hA⟩ : ∃ A, wr.heap.size = A := ⟨_, rfl⟩
  obtain ⟨B, hB⟩ : ∃ B, wb.heap.size = B := ⟨_, rfl⟩
  obtain ⟨we, hwe⟩ : ∃ we, wd.drewN (n1 + n2) = we := ⟨_, rfl⟩
  rw [hwe]
  have hcb : Below wb.heap.size wb we := by rw [← hwe]; exact bel_drewN (bel_then Q2.out Q2.out.size Q3.out) _
  have hae : Below A wr we := by rw [← hA, ← hwe]; exact bel_drewN BD.out _
  have hyw : OwnXs B we uy oy := by rw [← hB, ← hwe]; exact O2.out.on (bel_drewN Q3.out _)
  have hww : OwnXs B we uw ow := by
    rw [← hB, ← hwe]
    have := O3.out.on (bel_drewN (Below.refl _ _) (n1 + n2))
    exact ⟨own_weak this.1 Q2.out.size, fun x hx => own_weak (this.2 x hx) Q2.out.size⟩
  have hx0 : XSt A B we.heap.size we (.slice px ox.length cx) ox we := by
    refine ⟨by rw [← hA]; exact O1.out.on hcb, fun k hk => Or.inl ?_, fun x hx k hk => Or.inl ?_, ⟨rfl, rfl, rfl, Nat.le_refl _, fun _ _ _ => rfl⟩⟩
    · rw [← hB]; exact (World.ownsRow.lt O1.out.1.1 k hk).2
    · rw [← hB]; exact (World.ownsRow.lt (O1.out.1.2 x hx) k hk).2
  have HAB : Hid (w.heap.size ≤ A ∧ A ≤ B ∧ B ≤ we.heap.size) := ⟨by rw [← hA]; exact HIN.out.bel.size, by rw [← hA, ← hB]; exact Q1.out.size, by rw [← hB]; exact hcb.size⟩
  have HAE := hid hae
  have HYW := hid hyw
  have HWW := hid hww
  have HX0 := hid hx0
  have HON : Hid (∀ W, Below A wr W → Ins w e (.slice pi e.length ci) (.slice pr e.length cr) W) := fun W h => HIN.out.on (by rw [hA]; exact h)
  have hox : ∀ k, (h : k < ox.length) → (ox[k]).txt.length ≤ 8 := fun k h => by
    have : (ox[k]).fld ∈ ansF fs := by rw [← M1.out]; exact List.mem_map.2 ⟨_, List.getElem_mem h, rfl⟩
    exact ans_small _ this
  have HOX := hid hox
  have hnx : ox.length ≤ 2000000 := by
    have h1 := (ans_fit M1.out).1
    have h2 := congrArg List.length M1.out
    rw [List.length_map] at h2
    unfold ansF at h2
    split at h2
    · rename_i hc
      have := (may_parts (codeF_zero hc).2.2).1
      omega
    · rw [List.length_nil] at h2; omega
  clear hcb hae hyw hww hx0 hA hB hwe HSM HSF O1 Q1 Q2 Q3 BC BD hox
  go_loopg [88] ox.length (fun g vi ws => ∃ (i : Nat) (o : List Fx), vi = .int .i64 i ∧ i ≤ ox.length ∧ ox.length - i ≤ g ∧ Hid (o.length = ox.length) ∧ Hid (∀ k, i ≤ k → o[k]? = ox[k]?) ∧ Hid (XSt A B we.heap.size we (.slice px ox.length cx) o ws))
  case atStart => exact ⟨0, ox, rfl, by omega, by omega, rfl, fun _ _ => rfl, HX0⟩
  case round =>
  clear HX0
  obtain ⟨a, o, rfl, hai, hga, HOL, HOK, HXS⟩ := hrel
  by_cases halt : a < ox.length
  · have haz : (a : Int) < (ox.length : Int) := by omega
    have ha0 : (0 : Int) ≤ (a : Int) := by omega
    have hao : a < o.length := by rw [HOL.out]; exact halt
    obtain ⟨gx, cx', hsx⟩ := HXS.out.shape (by omega)
    rw [HOL.out] at hsx
    injection hsx with hs1 hs2 hs3
    subst hs1
    clear hs2 hs3
    obtain ⟨c0, c1, f0, f1⟩ := HXS.out.cells HOL.out hao
    have hy8 : (o[a]).txt.length ≤ 8 := by
      have h1 := HOK.out a (Nat.le_refl _)
      rw [List.getElem?_eq_getElem hao, List.getElem?_eq_getElem halt] at h1
      rw [Option.some.inj h1]
      exact HOX.out a halt
    have HO1 : Hid (∃ h : a < o.length, (o[a]).txt.length = (o[a]).txt.length) := ⟨hao, rfl⟩
    have HOK1 : Hid (∀ k, a < k → o[k]? = ox[k]?) := fun k hk => HOK.out k (by omega)
    obtain ⟨m, hm⟩ : ∃ m, (o[a]).txt.length = m := ⟨_, rfl⟩
    have HOM : Hid (∃ h : a < o.length, (o[a]).txt.length = m) := ⟨hao, hm⟩
    unfold Fx.sl at c1
    rw [hm] at c1 hy8
    clear HO1 HOK hm
    generalize (o[a]).name = nm0 at c0
    generalize (o[a]).p = p0 at c1
    generalize (o[a]).cap = cc0 at c1
    go_wp2_with fail
    clear c0 c1 f0 f1
    go_loopg [97] m (fun g vj ws => ∃ (j : Nat) (o : List Fx), vj = .int .i64 j ∧ j ≤ m ∧ m - j ≤ g ∧ Hid (o.length = ox.length) ∧ Hid (∃ h : a < o.length, (o[a]).txt.length = m) ∧ Hid (∀ k, a < k → o[k]? = ox[k]?) ∧ Hid (XSt A B we.heap.size we (.slice (some ⟨gx, 0, none⟩) ox.length cx) o ws))
    case atStart => exact ⟨0, o, rfl, by omega, by omega, HOL, HOM, HOK1, HXS⟩
    case round =>
    clear hao HOL HOM HOK1 HXS
    obtain ⟨j, o2, rfl, hj, hgj, HOL, HOM, HOK, HXS⟩ := hrel
    obtain ⟨hao, hm⟩ := HOM.out
    obtain ⟨c0, c1, f0, f1⟩ := HXS.out.cells HOL.out hao
    by_cases hjl : j < m
    · have hjz : (j : Int) < (m : Int) := by omega
      have hj0 : (0 : Int) ≤ (j : Int) := by omega
      have hot := HXS.out.own.1.2 _ (List.getElem_mem hao)
      obtain ⟨gt, hpt⟩ : ∃ gt, (o2[a]).p = some ⟨gt, 0, none⟩ := by
        rcases hot.2 with ⟨_, h0⟩ | ⟨g, c, cur, hv, _⟩
        · omega
        · unfold Fx.sl at hv
          injection hv with h1 _ _
          exact ⟨g, h1⟩
      have hrow : wr.ownsRow A 9 1 (.slice (some ⟨gt, 0, none⟩) (o2[a]).txt.length (o2[a]).cap) (o2[a]).txt.length ((o2[a]).txt.map Value.string) := by
        have := hot
        unfold OwnT Fx.sl at this
        rw [hpt] at this
        exact this
      have d0 : wr.cell? ⟨gt, j, none⟩ = some (.string ((o2[a]).txt[j]'(by omega))) := by
        rw [hrow.cellAt _ (by omega)]
        simp [show j < (o2[a]).txt.length by omega]
      have d1 : wr.frozen? ⟨gt, j, none⟩ = false := hrow.frozenAt _
      have HW := hid (HXS.out.wipe hao (j := j) hpt ⟨#[119, 105, 112, 101, 100]⟩)
      have HOL2 : Hid ((o2.set a ⟨(o2[a]).name, (o2[a]).p, (o2[a]).cap, (o2[a]).txt.set j ⟨#[119, 105, 112, 101, 100]⟩⟩).length = ox.length) := by show _ = _; rw [List.length_set]; exact HOL.out
      have HOM2 : Hid (∃ h : a < (o2.set a ⟨(o2[a]).name, (o2[a]).p, (o2[a]).cap, (o2[a]).txt.set j ⟨#[119, 105, 112, 101, 100]⟩⟩).length, ((o2.set a ⟨(o2[a]).name, (o2[a]).p, (o2[a]).cap, (o2[a]).txt.set j ⟨#[119, 105, 112, 101, 100]⟩⟩)[a]).txt.length = m) := ⟨by rw [List.length_set]; exact hao, by rw [List.getElem_set_self]; simp only [List.length_set]; exact hm⟩
      have HOK2 : Hid (∀ k, a < k → (o2.set a ⟨(o2[a]).name, (o2[a]).p, (o2[a]).cap, (o2[a]).txt.set j ⟨#[119, 105, 112, 101, 100]⟩⟩)[k]? = ox[k]?) := fun k hk => by rw [List.getElem?_set_ne (by omega)]; exact HOK.out k hk
      unfold Fx.sl at c1
      rw [hm, hpt] at c1
      generalize (o2[a]).name = nm1 at c0
      generalize (o2[a]).cap = cc1 at c1
      generalize ((o2[a]).txt[j]'(by omega)) = tj at d0
      clear hot hrow hpt hm
      go_wp2_with fail
      go_roundg (m - (j + 1))
      case measure => omega
      case rel => exact ⟨j + 1, _, by go_num, by omega, by omega, HOL2, HOM2, HOK2, HW⟩
    · have hjz : ¬ (j : Int) < (m : Int) := by omega
      clear c0 c1 f0 f1
      have HOM0 : Hid (∃ h : a < o2.length, (o2[a]).txt.length = m + 0) := ⟨hao, hm⟩
      clear hm hao HOM
      go_wp2_with fail
      go_loopg [108] 9 (fun g vj ws => ∃ (q : Nat) (o : List Fx), vj = .int .i64 q ∧ q ≤ 9 ∧ 9 - q ≤ g ∧ Hid (o.length = ox.length) ∧ Hid (∃ h : a < o.length, (o[a]).txt.length = m + q) ∧ Hid (∀ k, a < k → o[k]? = ox[k]?) ∧ Hid (XSt A B we.heap.size we (.slice (some ⟨gx, 0, none⟩) ox.length cx) o ws))
      case atStart => exact ⟨0, o2, rfl, by omega, by omega, HOL, HOM0, HOK, HXS⟩
      case round =>
      clear HOL HOM0 HOK HXS
      obtain ⟨q, o3, rfl, hq, hgq, HOL, HOM, HOK, HXS⟩ := hrel
      obtain ⟨hao, hm⟩ := HOM.out
      obtain ⟨c0, c1, f0, f1⟩ := HXS.out.cells HOL.out hao
      by_cases hq9 : q < 9
      · have hqz : (q : Int) < 9 := by omega
        have hot := HXS.out.own.1.2 _ (List.getElem_mem hao)
        obtain ⟨T3, hT3⟩ : ∃ T3, (o3[a]).txt.map Value.string = T3 := ⟨_, rfl⟩
        have hrow : wr.ownsRow A 9 1 (.slice (o3[a]).p (m + q) (o3[a]).cap) (m + q) T3 := by
          have := hot
          unfold OwnT Fx.sl at this
          rw [hT3, hm] at this
          exact this
        have hsl : (o3[a]).sl = .slice (o3[a]).p (m + q) (o3[a]).cap := by unfold Fx.sl; rw [hm]
        have HROW := hid (World.ownsRow.alloc hrow (.cells #[.string ⟨#[109, 111, 114, 101]⟩] 9))
        have HX1 := hid (HXS.out.alloc (.cells #[.string ⟨#[109, 111, 114, 101]⟩] 9))
        have hAw : A ≤ wr.heap.size := by
          have := HXS.out.kept.size
          have h3 := HAB.out
          omega
        have HT3 := hid hT3
        have HSL := hid hsl
        have HM := hid hm
        have KG : Hid (∀ g4 c4 w4, w4.ownsRow A 9 1 (.slice (some ⟨g4, 0, none⟩) (m + q + 1) c4) (m + q + 1) (T3 ++ [.string ⟨#[109, 111, 114, 101]⟩]) → (wr.alloc (.cells #[.string ⟨#[109, 111, 114, 101]⟩] 9)).grownBy w4 (Value.slice (o3[a]).p (m + q) (o3[a]).cap).ownBlock →
            ((Value.slice (some ⟨g4, 0, none⟩) (m + q + 1) c4).ownBlock = (Value.slice (o3[a]).p (m + q) (o3[a]).cap).ownBlock ∨ (Value.slice (some ⟨g4, 0, none⟩) (m + q + 1) c4).ownBlock = some (wr.alloc (.cells #[.string ⟨#[109, 111, 114, 101]⟩] 9)).heap.size) →
            w4.cell? ⟨gx, a * 2 + 1, none⟩ = some (.slice (o3[a]).p (m + q) (o3[a]).cap) ∧ w4.frozen? ⟨gx, a * 2 + 1, none⟩ = false ∧ Hid (XSt A B we.heap.size we (.slice (some ⟨gx, 0, none⟩) ox.length cx) (o3.set a ⟨(o3[a]).name, some ⟨g4, 0, none⟩, c4, (o3[a]).txt ++ [⟨#[109, 111, 114, 101]⟩]⟩) (w4.setCell ⟨gx, a * 2 + 1, none⟩ (.slice (some ⟨g4, 0, none⟩) (m + q + 1) c4)))) := fun g4 c4 w4 h1 h2 h3 => by
          rw [← HSL.out] at h2 h3 ⊢
          exact HX1.out.grow HOL.out hao (ts := (o3[a]).txt ++ [⟨#[109, 111, 114, 101]⟩]) (by rw [List.length_append, HM.out]; rfl) (by rw [List.map_append, HT3.out]; exact h1) h2 h3
        have HOL2 : Hid (∀ y : Fx, (o3.set a y).length = ox.length) := fun y => by rw [List.length_set]; exact HOL.out
        have HOM2 : Hid (∀ y : Fx, y.txt.length = m + (q + 1) → ∃ h : a < (o3.set a y).length, ((o3.set a y)[a]).txt.length = m + (q + 1)) := fun y hy => ⟨by rw [List.length_set]; exact hao, by rw [List.getElem_set_self]; exact hy⟩
        have HTLN : Hid (((o3[a]).txt ++ [(⟨#[109, 111, 114, 101]⟩ : ByteArray)]).length = m + (q + 1)) := by show _ = _; rw [List.length_append, HM.out]; rfl
        have HOK2 : Hid (∀ y : Fx, ∀ k, a < k → (o3.set a y)[k]? = ox[k]?) := fun y k hk => by rw [List.getElem?_set_ne (by omega)]; exact HOK.out k hk
        rw [hsl] at c1
        clear hot hrow hT3 hsl hm c0 f0
        generalize (o3[a]).p = p3 at c1 HROW KG
        generalize (o3[a]).cap = cc3 at c1 HROW KG
        go_wp2_with (first | (at_builtin; refine wpList_append_own_at _ rfl _ _ 28 rfl A 9 i0 (.string ⟨#[]⟩) 1 16 Tryd.underlying28 HI.out hz0 hz1 hz2 rfl (by decide) _ _ _ rfl HROW.out ⟨wr.heap.size, 0, none⟩ 1 1 [.string ⟨#[109, 111, 114, 101]⟩] rfl rfl (new_one _ _) (txt_one1 _) (by unfold maxLen; omega) (by omega) (by simp; omega) ?_))
        intro v4 w4 hown4 hg4 _ hat4
        obtain ⟨g4, c4, rfl⟩ := ownsRow_succ hown4
        obtain ⟨d1, d2, HX4⟩ := KG.out g4 c4 w4 hown4 hg4 (by rw [World.size_alloc]; exact hat4)
        clear hown4 hg4 hat4 c1 f1
        go_wp2_with fail
        go_roundg (9 - (q + 1))
        case measure => omega
        case rel => exact ⟨q + 1, _, by go_num, by omega, by omega, HOL2.out _, HOM2.out _ HTLN.out, HOK2.out _, HX4⟩
      · have hqz : ¬ (q : Int) < 9 := by omega
        have HRN := hid (HXS.out.rename HOL.out hao ⟨#[119, 105, 112, 101, 100]⟩)
        have HOL2 : Hid (∀ y : Fx, (o3.set a y).length = ox.length) := fun y => by rw [List.length_set]; exact HOL.out
        have HOK2 : Hid (∀ y : Fx, ∀ k, a + 1 ≤ k → (o3.set a y)[k]? = ox[k]?) := fun y k hk => by rw [List.getElem?_set_ne (by omega)]; exact HOK.out k (by omega)
        generalize (o3[a]).name = nm3 at c0
        clear c1 f1 hm
        go_wp2_with fail
        go_roundg (ox.length - (a + 1))
        case measure => omega
        case rel => exact ⟨a + 1, _, by go_num, by omega, by omega, HOL2.out _, HOK2.out _, HRN⟩
  · have haz : ¬ (a : Int) < (ox.length : Int) := by omega
    obtain ⟨hA1, hA2, hA3⟩ := HAB.out
    have hBA := HXS.out.kept.below (by omega) (Nat.le_refl _)
    have hAr : A ≤ wr.heap.size := by have := HXS.out.kept.size; omega
    have HAW := hid (HAE.out.trans hBA)
    have HINW := hid (HON.out wr HAW.out)
    have HYK : Hid (∀ W, Below wr.heap.size wr W → IsXs W uy oy ∧ IsXs W uw ow) := fun W hW => by
      have key : ∀ {u : Value} {o : List Fx}, OwnXs B we u o → IsXs W u o := fun {u o} h => by
        have h1 : OwnXs B wr u o := by
          refine ⟨own_same h.1 fun k hk => ?_, fun x hx => own_same (h.2 x hx) fun k hk => ?_⟩
          · have := World.ownsRow.lt h.1 k hk
            exact HXS.out.kept.block k this.2 (Or.inr this.1)
          · have := World.ownsRow.lt (h.2 x hx) k hk
            exact HXS.out.kept.block k this.2 (Or.inr this.1)
        exact (h1.on hW).is
      exact ⟨key HYW.out, key HWW.out⟩
    have HTE : Hid (∀ nm, (textsOf (e.map Fx.fld) nm).length ≤ 2000000) := fun nm => by
      have h1 := textsOf_len (e.map Fx.fld) nm
      rw [HFE.out] at h1 ⊢
      have h2 := HTOT.out
      rw [HFS.out] at h2
      omega
    have HT16 : Hid (∀ x ∈ e, x.txt.length * 16 ≤ 140737488355328) := fun x hx => by
      have h1 := totF_mem (List.mem_map.2 ⟨x, hx, rfl⟩ : x.fld ∈ e.map Fx.fld)
      rw [HFE.out] at h1
      have h2 := HTOT.out
      rw [HFS.out] at h2
      have e2 : x.fld.2.length = x.txt.length := rfl
      omega
    obtain ⟨Be, hBe⟩ : ∃ B, decide (0 < e.length) = B := ⟨_, rfl⟩
    have HBE := hid hBe
    have hBe2 : decide ((0 : Int) < (e.length : Int)) = Be := by rw [← hBe, decide_eq_decide]; omega
    clear hBA HOL HOK
    go_upto_if 129 with fail
    clear hBe hBe2
    go_cut [16] from 17 (fun _ wx => Hid (Below wr.heap.size wr wx))
    case first =>
      cases Be with
      | false =>
        have HR0 : Hid (Below wr.heap.size wr wr) := Below.refl _ _
        go_wp2_with fail
        go_meet
        case rel => exact HR0
      | true =>
        have he0 : 0 < e.length := of_decide_eq_true HBE.out
        have he0z : (0 : Int) < (e.length : Int) := by omega
        obtain ⟨p', c', he1, hdi, _⟩ := HINW.out.is
        injection he1 with he1 _ he2
        subst he1
        obtain ⟨bi, oi, rfl, hxi⟩ : ∃ b off, pi = some ⟨b, off, none⟩ ∧ XsAt wr b off e := by
          rcases hdi with h | h
          · rw [h] at he0; simp at he0
          · exact h
        have c0 := (hxi 0 he0).1
        rw [Nat.zero_mul, Nat.add_zero] at c0
        obtain ⟨nm, hnm⟩ : ∃ nm, (e[0]).name = nm := ⟨_, rfl⟩
        rw [hnm] at c0
        have HTT := hid (texts_any _ nm e wr HINW.out.is HFX.out HT16.out)
        have hTE := HTE.out nm
        obtain ⟨ts, hts⟩ : ∃ ts, textsOf (e.map Fx.fld) nm = ts := ⟨_, rfl⟩
        rw [hts] at HTT hTE
        clear hdi hxi hnm he2 hts
        go_wp2_with (first | (go_at_call 10; refine HTT.out.mono ?_; rintro q w2 ⟨⟨vt, rfl, ot⟩, qt⟩; obtain ⟨pt, ct, rfl⟩ := own_slice ot; have OT := hid ot; have QT := hid qt; clear ot qt))
        go_loopg [138] ts.length (fun g vj ws => ∃ (j : Nat) (us : List ByteArray), vj = .int .i64 j ∧ j ≤ ts.length ∧ ts.length - j ≤ g ∧ Hid (us.length = ts.length) ∧ Hid (OwnT wr.heap.size ws (.slice pt ts.length ct) us) ∧ Hid (Below wr.heap.size wr ws))
        case atStart => exact ⟨0, ts, rfl, by omega, by omega, rfl, OT, QT⟩
        case round =>
        clear OT QT
        obtain ⟨j, us, rfl, hj, hgj, HUL, HOU, HBU⟩ := hrel
        by_cases hjl : j < ts.length
        · have hjz : (j : Int) < (ts.length : Int) := by omega
          have hj0 : (0 : Int) ≤ (j : Int) := by omega
          have hul := HUL.out
          obtain ⟨gt, rfl⟩ : ∃ gt, pt = some ⟨gt, 0, none⟩ := by
            rcases HOU.out.2 with ⟨_, h0⟩ | ⟨g, c, cur, hv, _⟩
            · omega
            · injection hv with h1 _ _
              exact ⟨g, h1⟩
          have hrow := HOU.out
          unfold OwnT at hrow
          rw [← hul] at hrow
          have d0 : wr.cell? ⟨gt, j, none⟩ = some (.string (us[j]'(by omega))) := by
            rw [hrow.cellAt _ (by omega)]
            simp [show j < us.length by omega]
          have d1 : wr.frozen? ⟨gt, j, none⟩ = false := hrow.frozenAt _
          have HOU2 := hid (hrow.stored j (.string ⟨#[119, 105, 112, 101, 100]⟩)).1
          rw [← List.map_set] at HOU2
          have HUL2 : Hid ((us.set j ⟨#[119, 105, 112, 101, 100]⟩).length = ts.length) := by show _ = _; rw [List.length_set]; exact hul
          have HBU2 := hid (HBU.out.setCell (p := ⟨gt, j, none⟩) ((World.ownsRow.lt HOU.out gt rfl).1) (.string ⟨#[119, 105, 112, 101, 100]⟩))
          rw [hul] at HOU2
          generalize (us[j]'(by omega)) = tj at d0
          clear hrow
          have HOU3 := HOU2
          go_wp2_with fail
          go_roundg (ts.length - (j + 1))
          case measure => omega
          case rel =>
            refine ⟨j + 1, us.set j ⟨#[119, 105, 112, 101, 100]⟩, by go_num, by omega, by omega, HUL2, ?_, HBU2⟩
            show OwnT _ _ _ _
            unfold OwnT
            rw [HUL2.out]
            exact HOU3.out
        · have hjz : ¬ (j : Int) < (ts.length : Int) := by omega
          go_wp2_with fail
          go_meet
          case rel => exact HBU
    case rest =>
    have HBX := hcut
    clear hcut
    have HAC := hid (HAW.out.trans (HBX.out.mono hAr))
    have HINC := hid (HON.out wc HAC.out)
    have HYC := hid (HYK.out wc HBX.out)
    go_wp2_with fail
    go_loopg [147] e.length (fun g vj ws => ∃ j n : Nat, vj = .int .i64 j ∧ j ≤ e.length ∧ e.length - j ≤ g ∧ ws = wc.drewN n)
    case atStart => exact ⟨0, 0, rfl, by omega, by omega, rfl⟩
    case round =>
      obtain ⟨j, n, rfl, hj, hgj, rfl⟩ := hrel
      by_cases hjl : j < e.length
      · have hjz : (j : Int) < (e.length : Int) := by omega
        have hj0 : (0 : Int) ≤ (j : Int) := by omega
        obtain ⟨gj, hpj, hcj, hmj⟩ := (HINC.out.each _ (List.getElem_mem hjl)).mark
        obtain ⟨gr, rfl⟩ : ∃ g, pr = some ⟨g, 0, none⟩ := by
          rcases HINC.out.rooms.2 with ⟨_, h0⟩ | ⟨g, c, cur, hv, _⟩
          · omega
          · injection hv with h1 _ _
            exact ⟨g, h1⟩
        have r0 : wc.cell? ⟨gr, j, none⟩ = some (e[j]).sl := by
          have hrow := HINC.out.rooms
          rw [hrow.cellAt _ (by omega)]
          simp [hjl]
        unfold Fx.sl at r0
        rw [hpj, hcj] at r0
        obtain ⟨l, hl0⟩ : ∃ l, (e[j]).txt.length = l := ⟨_, rfl⟩
        rw [hl0] at r0 hmj
        have hll : l ≤ 2000000 := by
          have := HT16.out _ (List.getElem_mem hjl)
          have h1 := totF_mem (List.mem_map.2 ⟨_, List.getElem_mem hjl, rfl⟩ : (e[j]).fld ∈ e.map Fx.fld)
          rw [HFE.out] at h1
          have h2 := HTOT.out
          rw [HFS.out] at h2
          have e2 : (e[j]).fld.2.length = (e[j]).txt.length := rfl
          omega
        replace r0 : (wc.drewN n).cell? ⟨gr, j, none⟩ = some (.slice (some ⟨gj, 0, none⟩) l (l + 2)) := r0
        replace hmj : (wc.drewN n).cell? ⟨gj, l, none⟩ = some (.string ⟨#[109, 97, 114, 107]⟩) := hmj
        obtain ⟨Wn, hWn⟩ : ∃ Wn, wc.drewN n = Wn := ⟨_, rfl⟩
        rw [hWn] at r0 hmj ⊢
        have HWN := hid hWn
        have l1 : (0 : Int) ≤ (l : Int) := by omega
        have l2 : (0 : Int) ≤ (l : Int) + 2 := by omega
        have l3 : (l : Int) < (l : Int) + 2 := by omega
        clear hpj hcj hl0 hWn
        go_wp2_with fail
        go_quiet (fail)
        go_wp2_with fail
        go_roundg (e.length - (j + 1))
        case measure => omega
        exact ⟨j + 1, _, by go_num, by omega, by omega, by rw [← HWN.out, World.drewN_drewN]⟩
      · have hjz : ¬ (j : Int) < (e.length : Int) := by omega
        have HSF := hid (sameF_any _ _ e d (wc.drewN n) (HINC.out.on (bel_drewN (Below.refl _ _) n)).is (HV.out.kept (bel_drewN HINC.out.bel n)) HFX.out HF.out)
        rw [show decide (e.map Fx.fld = d.map Fx.fld) = true from decide_eq_true (HFE.out.trans HFS.out.symm)] at HSF
        go_wp2_with fail
        refine HSF.out.mono ?_
        rintro q w8 ⟨rfl, n8, rfl⟩
        have HSG := hid (sameF_any uy uw oy ow (wc.drewN (n + n8)) (HYC.out.1.kept (bel_drewN (Below.refl _ _) (n + n8))) (HYC.out.2.kept (bel_drewN (Below.refl _ _) (n + n8))) (ans_fit M2.out) (ans_fit M3.out))
        rw [show decide (oy.map Fx.fld = ow.map Fx.fld) = true from decide_eq_true (M2.out.trans M3.out.symm)] at HSG
        go_wp2_with fail
        refine HSG.out.mono ?_
        rintro q w9 ⟨rfl, n9, rfl⟩
        go_wp2_with fail
        go_ret
        exact ⟨rfl, bel_drewN HINC.out.bel (n + n8 + n9)⟩

end Go.Proofs.YtmjchokacmbkoabDoor
