/-
  Texts of this claim, one behind the other: Bas Blk Blf App Sze0 Jns.
-/
import Derived.Test.YtmjchokacmbkoabDoorRows
import Derived.Test.YtmjchokacmbkoabDoorPa
import Derived.MakeChecks
import Derived.ProofKit
import Derived.OpenShut
import Derived.Lay
import Derived.Stop.Joined
import Derived.SliceStrings
import Derived.Deep.SlicePairs
import Derived.Lib.LaidU8
import Derived.SizedLaws
import Derived.ChangeSlices
import Derived.Deep.DeepHandedRow
import Derived.Test.YtmjchokacmbkoabDoorPb
import Derived.Test.YtmjchokacmbkoabDoorPd
import Derived.Test.YtmjchokacmbkoabDoorPc
import Derived.Deep.CutRange
/-
  What each row's proof opens its arguments by, and what the laid variables give.
-/
namespace Go.Proofs.YtmjchokacmbkoabDoor
open Go.ChangeShapes Go.WideShapes Go.ChangeAt Go.RowKit Go.Lib Go.Deep

theorem Tryd.own : ownKnob Tryd.prog.godebug = none := by kernel_rfl
theorem Tryd.laidOut : laidOutB Tryd.prog = true := by kernel_rfl
theorem Tryd.cellsFld : Tryd.prog.cellsOf 30 = 2 := by kernel_rfl
theorem Tryd.cellsStr : Tryd.prog.cellsOf 9 = 1 := by kernel_rfl
theorem Tryd.cellsStrs : Tryd.prog.cellsOf 28 = 1 := by kernel_rfl
theorem Tryd.cellsByte : Tryd.prog.cellsOf 5 = 1 := by kernel_rfl

/-- What the rows list. -/
def seatLaid : List (String × DataW Unit) := [("unicode/utf8.acceptRanges", Rows.laid_unicode_utf8_acceptRanges), ("folio/value.plain", Rows.laid_folio_value_plain), ("unicode/utf8.first", Rows.laid_unicode_utf8_first)]

theorem gPlain : Tryd.prog.globalNamed "folio/value.plain" = some 0 := by kernel_rfl
theorem tPlain : (Tryd.prog.globals[0]?).map (·.type) = some 91 := by kernel_rfl
theorem uPair : Tryd.prog.underlying 90 = some (.array 2 5) := by kernel_rfl
theorem cPair : Tryd.prog.cellsOf 90 = 2 := by kernel_rfl
theorem cPlain : Tryd.prog.cellsOf 91 = 26 := by kernel_rfl

def plainLits : List (Int × Int) := [(97, 122), (65, 90), (48, 57), (45, 45), (46, 46), (95, 95), (124, 124), (42, 42), (64, 64), (47, 47), (58, 58), (43, 43), (44, 44)]

theorem plain_data : (Rows.laid_folio_value_plain : DataW Unit) = .agg (plainLits.map fun p => .agg [.lit (.int .u8 p.1), .lit (.int .u8 p.2)]) := rfl

theorem one_byte_read {W : World} {f : Nat} {cs : List Value} {k : Int} {q : List MemPlace} (h : DataW.trod (fun _ => ()) Tryd.prog W 0 (fun _ => true) false f 5 cs = some (.lit (.int .u8 k), q)) : cs = [.int .u8 k] := by
  obtain ⟨n, rfl, e, _⟩ := DataW.trod_int Tryd.underlying5 h
  cases e
  rfl

theorem pair_cells {W : World} {f : Nat} {cs : List Value} {a b : Int} {q : List MemPlace} (hl : cs.length = 2) (h : DataW.trod (fun _ => ()) Tryd.prog W 0 (fun _ => true) false f 90 cs = some (.agg [.lit (.int .u8 a), .lit (.int .u8 b)], q)) : cs = [.int .u8 a, .int .u8 b] := by
  match cs, hl with
  | [x, y], _ =>
    obtain ⟨f0, d0, q0, e0, h0⟩ := array_elem uPair h 0 (by decide)
    obtain ⟨f1, d1, q1, e1, h1⟩ := array_elem uPair h 1 (by decide)
    rw [Tryd.cellsByte] at h0 h1
    simp only [List.getElem?_cons_zero, List.getElem?_cons_succ, Option.some.injEq] at e0 e1
    subst e0 e1
    have k0 := one_byte_read h0
    have k1 := one_byte_read h1
    simp at k0 k1
    rw [k0, k1]

theorem list_pairs : ∀ (n : Nat) (cs : List Value) (ps : List (Int × Int)), cs.length = n * 2 → ps.length = n → (∀ i (h : i < ps.length), (cs.drop (i * 2)).take 2 = [.int .u8 ps[i].1, .int .u8 ps[i].2]) → cs = ps.flatMap fun p => [.int .u8 p.1, .int .u8 p.2]
  | 0, cs, ps, hc, hp, _ => by
    rw [List.length_eq_zero_iff.1 (by omega : cs.length = 0), List.length_eq_zero_iff.1 hp]
    rfl
  | n + 1, cs, ps, hc, hp, h => by
    match ps, hp, cs, hc with
    | _ :: _, _, [], hc => simp at hc
    | _ :: _, _, [_], hc => simp at hc; omega
    | p :: ps, hp, x :: y :: cs, hc =>
      have h0 := h 0 (by simp)
      simp at h0
      have := list_pairs n cs ps (by simp at hc; omega) (by simpa using hp) (fun i hi => by
        have := h (i + 1) (by simp; omega)
        rw [show (i + 1) * 2 = i * 2 + 1 + 1 by omega] at this
        simpa using this)
      rw [List.flatMap_cons, ← this, h0.1, h0.2]
      rfl

theorem plain_of_laid {W : World} (h : laidMetH Tryd.prog seatLaid W) : PlainAt W := by
  rw [MakeChecks.laidMetH_plain _ _ _ (by kernel_rfl)] at h
  obtain ⟨g, t, cs, fuel, p, hg, ht, hv, hd⟩ := laidMet.reads h (n := "folio/value.plain") (d := Rows.laid_folio_value_plain) (.tail _ (.head _))
  obtain rfl := Option.some.inj (gPlain.symm.trans hg)
  obtain rfl := Option.some.inj (tPlain.symm.trans ht)
  rw [plain_data] at hd
  obtain ⟨_, _, _, _, hlen, _, _⟩ := DataW.trod_array Tryd.underlying91 hd
  rw [cPlain] at hlen
  have hcs := list_pairs 13 cs.toList plainLits (by simpa using hlen) rfl (fun i hi => by
    have hi13 : i < 13 := hi
    obtain ⟨f, d, q, e, hx⟩ := array_elem Tryd.underlying91 hd i hi13
    rw [cPair] at hx
    rw [List.getElem?_map, List.getElem?_eq_getElem hi] at e
    simp only [Option.map_some, Option.some.injEq] at e
    subst e
    exact pair_cells (by rw [List.length_take, List.length_drop]; rw [hlen]; omega) hx)
  have hv' : W.var? Tryd.prog "folio/value.plain" = some cs := hv
  simp only [World.var?, hg, Option.bind_some] at hv'
  split at hv'
  · rename_i c t' fr hh
    cases hv'
    refine ⟨t', fr, ?_⟩
    rw [hh]
    have : cs = plainCells := Array.toList_inj.1 (by rw [hcs]; rfl)
    rw [this]
  · cases hv'

/-- A slice of texts that came in. -/
theorem open_txt {H : Type} {enc : TypeId × Value → H} {W : World} {f : Nat} {v : Value} {x : DataW H × List MemPlace} (h : DataW.trod enc Tryd.prog W 0 (fun _ => true) true f 28 [v] = some x) :
    ∃ p cap, ∃ ts : List ByteArray, v = .slice p ts.length cap ∧ TxtAt W p ts ∧ FitT ts := by
  rcases open_strings Tryd.underlying28 Tryd.underlying9 Tryd.cellsStr h with ⟨hcs, _⟩ | ⟨a, l, c, ss, hcs, _, hl, hm, hz, _, hcell, hws⟩
  · simp at hcs
    exact ⟨none, 0, [], hcs, Or.inl rfl, by unfold maxLen; simp, fun t ht => by simp at ht⟩
  · simp at hcs
    have hz' : ss.length = c := by simpa using hz
    have hlen : (ss.take l).length = l := by rw [List.length_take]; omega
    refine ⟨some a, c, ss.take l, by rw [hlen]; exact hcs, ?_, by omega, fun t ht => hws t (List.mem_of_mem_take ht)⟩
    by_cases h0 : l = 0
    · subst h0; exact Or.inl rfl
    · right
      have hc0 := hcell 0 (by omega)
      obtain ⟨b, off, spot⟩ := a
      have hspot : spot = none := by simpa [Addr.add] using World.cell?_spot hc0
      subst hspot
      refine ⟨b, off, rfl, fun i hi => ?_⟩
      rw [hlen] at hi
      have := hcell i (by omega)
      rw [addr_add] at this
      rw [this, List.getElem_take, List.getD_eq_getElem?_getD, List.getElem?_eq_getElem (by omega)]
      rfl

set_option maxRecDepth 100000 in
/-- A slice of fields that came in. -/
theorem open_fields {H : Type} {enc : TypeId × Value → H} {W : World} {b0 : Nat} {v : Value} {dd : DataW H} {p : List MemPlace}
    (hv : Value.okWide Tryd.prog W .any b0 22 v) (h : DataW.Trod enc Tryd.prog W 0 (fun _ => true) true 22 v dd p) : ∃ d : List Fx, IsXs W v d ∧ FitX d := by
  obtain ⟨a0, len, cap, rfl⟩ := okWide_slice Tryd.underlying22 hv
  obtain ⟨fuel, hf⟩ := h
  rcases open_slice_pairs Tryd.underlying22 Tryd.underlying30 Tryd.cellsFld rfl rfl Tryd.cellsStr Tryd.cellsStrs hf with ⟨hcs, _⟩ | ⟨a, l, c, m, n, V0, V1, D0, D1, P0, P1, hcs, _, hl, hm, hmm, hdat, hall⟩
  · simp [Value.cells] at hcs
    obtain ⟨rfl, rfl, rfl⟩ := hcs
    exact ⟨[], ⟨none, 0, rfl, Or.inl rfl, fun x hx => by simp at hx⟩, by unfold maxLen; simp, fun x hx => by simp at hx⟩
  · simp [Value.cells] at hcs
    obtain ⟨rfl, rfl, rfl⟩ := hcs
    have hm' : m = cap := by simpa using hmm
    subst hm'
    have each : ∀ i, i < m → ∃ x : Fx, V0 i = .string x.name ∧ V1 i = x.sl ∧ TxtAt W x.p x.txt ∧ FitF x.fld := by
      intro i hi
      obtain ⟨_, _, h3, h4⟩ := hall i hi
      obtain ⟨s, e0, _, hs⟩ := DataW.trod_string Tryd.underlying9 h3
      simp only [List.cons.injEq, and_true] at e0
      obtain ⟨q, cc, ts, e1, ht, hft⟩ := open_txt h4
      exact ⟨⟨s, q, cc, ts⟩, e0, e1, ht, hs, hft⟩
    by_cases h0 : len = 0
    · subst h0
      exact ⟨[], ⟨_, _, rfl, Or.inl rfl, fun x hx => by simp at hx⟩, by unfold maxLen; simp, fun x hx => by simp at hx⟩
    · have hc0 := (hall 0 (by omega)).1
      obtain ⟨b, off, spot⟩ := a
      have hspot : spot = none := by simpa [Addr.add] using World.cell?_spot hc0
      subst hspot
      let f : Nat → Fx := fun i => if h : i < m then (each i h).choose else default
      have fs : ∀ i (h : i < m), V0 i = .string (f i).name ∧ V1 i = (f i).sl ∧ TxtAt W (f i).p (f i).txt ∧ FitF (f i).fld := fun i h => by
        have e : f i = (each i h).choose := dif_pos h
        rw [e]
        exact (each i h).choose_spec
      have hlen : ((List.range len).map f).length = len := by simp
      refine ⟨(List.range len).map f, ⟨_, m, by rw [hlen], Or.inr ⟨b, off, rfl, fun i hi => ?_⟩, fun x hx => ?_⟩, by rw [hlen]; omega, fun x hx => ?_⟩
      · have hi0 : i < len := by simpa using hi
        obtain ⟨h1, h2, _, _⟩ := hall i (by omega)
        obtain ⟨g1, g2, _⟩ := fs i (by omega)
        rw [addr_add] at h1 h2
        have ef : ((List.range len).map f)[i]'hi = f i := by simp
        rw [ef, h1, ← g1]
        refine ⟨rfl, ?_⟩
        rw [Nat.add_assoc, h2, g2]
      · obtain ⟨i, hi, rfl⟩ := List.mem_map.1 hx
        exact (fs i (by have := List.mem_range.1 hi; omega)).2.2.1
      · obtain ⟨i, hi, rfl⟩ := List.mem_map.1 hx
        exact (fs i (by have := List.mem_range.1 hi; omega)).2.2.2

set_option maxRecDepth 100000 in
/-- A slice of bytes that came in. -/
theorem open_bytes {H : Type} {enc : TypeId × Value → H} {W : World} {b0 : Nat} {v : Value} {dd : DataW H} {p : List MemPlace}
    (hv : Value.okWide Tryd.prog W .any b0 39 v) (h : DataW.Trod enc Tryd.prog W 0 (fun _ => true) true 39 v dd p) : ∃ l : List UInt8, RestAt W.heap.size W v l := by
  obtain ⟨a0, len, cap, rfl⟩ := okWide_slice Tryd.underlying39 hv
  obtain ⟨fuel, hf⟩ := h
  rcases open_ints Tryd.underlying39 Tryd.underlying5 Tryd.cellsByte hf with ⟨hcs, _⟩ | ⟨a, l, c, zs, hcs, _, hl, hm, hz, _, hcell, hws⟩
  · simp [Value.cells] at hcs
    obtain ⟨rfl, rfl, rfl⟩ := hcs
    exact ⟨[], none, 0, rfl, by simp, by unfold maxLen; omega, Or.inl rfl⟩
  · simp [Value.cells] at hcs
    obtain ⟨rfl, rfl, rfl⟩ := hcs
    have hz' : zs.length = cap := by simpa using hz
    have hlen : ((zs.take len).map fun z => UInt8.ofNat z.toNat).length = len := by rw [List.length_map, List.length_take]; omega
    refine ⟨(zs.take len).map fun z => UInt8.ofNat z.toNat, some a, cap, by rw [hlen], by rw [hlen]; exact hl, hm, ?_⟩
    by_cases h0 : len = 0
    · subst h0; exact Or.inl (by simp)
    · right
      have hc0 := hcell 0 (by omega)
      obtain ⟨b, off, spot⟩ := a
      have hspot : spot = none := by simpa [Addr.add] using World.cell?_spot hc0
      subst hspot
      refine ⟨b, off, rfl, ?_, fun i hi => ?_⟩
      · have := cell_block hc0
        simpa [Addr.add] using this
      · rw [hlen] at hi
        have := hcell i (by omega)
        rw [addr_add, List.getD_eq_getElem?_getD, List.getElem?_eq_getElem (by omega)] at this
        rw [this]
        have hw := hws _ (List.getElem_mem (show i < zs.length by omega))
        have hb : 0 ≤ zs[i] ∧ zs[i] ≤ 255 := by simpa [Lit.wf, IntKind.min, IntKind.max, IntKind.signed, IntKind.bits] using hw
        simp
        omega

end Go.Proofs.YtmjchokacmbkoabDoor

/-
  What the bound of a second form gives: how great an argument can be.
-/
namespace Go.Proofs.YtmjchokacmbkoabDoor
open Go.ChangeShapes Go.WideShapes Go.ChangeAt Go.RowKit Go.Lib Go.Deep

theorem bulk_pos {H : Type} (d : DataW H) : 1 ≤ Rows.uptoBulk d := by
  cases d with
  | lit l => cases l <;> simp [Rows.uptoBulk]
  | nil => simp [Rows.uptoBulk]
  | ptr d => simp [Rows.uptoBulk]
  | slice elems spare => simp [Rows.uptoBulk]
  | agg parts => simp [Rows.uptoBulk]
  | iface t d => simp [Rows.uptoBulk]
  | map entries => simp [Rows.uptoBulk]
  | held h => simp [Rows.uptoBulk]

theorem bulk_sum {H : Type} (l : List (DataW H)) : Rows.uptoBulkAll l = (l.map Rows.uptoBulk).sum := by
  induction l with
  | nil => simp [Rows.uptoBulkAll]
  | cons x r ih => simp [Rows.uptoBulkAll, ih]

theorem bulk_mem {H : Type} {d : DataW H} {l : List (DataW H)} (h : d ∈ l) : Rows.uptoBulk d ≤ Rows.uptoBulkAll l := by
  induction l with
  | nil => cases h
  | cons x r ih =>
    simp only [Rows.uptoBulkAll]
    rcases List.mem_cons.1 h with rfl | h
    · omega
    · have := ih h; omega

theorem bulk_len {H : Type} (l : List (DataW H)) : l.length ≤ Rows.uptoBulkAll l := by
  induction l with
  | nil => simp [Rows.uptoBulkAll]
  | cons x r ih => have := bulk_pos x; simp only [Rows.uptoBulkAll, List.length_cons]; omega

theorem bulk_small {H : Type} {l : List (DataW H)} (hk : Rows.uptoSmall H l = true) : Rows.uptoBulkAll l ≤ 1048576 := of_decide_eq_true hk

/-- A slice of texts that came in, and its bulk. -/
theorem open_txtU {H : Type} {enc : TypeId × Value → H} {W : World} {f : Nat} {v : Value} {x : DataW H × List MemPlace} (h : DataW.trod enc Tryd.prog W 0 (fun _ => true) true f 28 [v] = some x) :
    ∃ p cap, ∃ ts : List ByteArray, v = .slice p ts.length cap ∧ TxtAt W p ts ∧ FitT ts ∧ ts.length + 1 ≤ Rows.uptoBulk x.1 ∧ ∀ t ∈ ts, t.size ≤ Rows.uptoBulk x.1 := by
  rcases open_strings Tryd.underlying28 Tryd.underlying9 Tryd.cellsStr h with ⟨hcs, hx⟩ | ⟨a, l, c, ss, hcs, _, hl, hm, hz, hx, hcell, hws⟩
  · simp at hcs
    exact ⟨none, 0, [], hcs, Or.inl rfl, ⟨by unfold maxLen; simp, fun t ht => by simp at ht⟩, by rw [hx]; simp [Rows.uptoBulk], fun t ht => by simp at ht⟩
  · simp at hcs
    have hz' : ss.length = c := by simpa using hz
    have hlen : (ss.take l).length = l := by rw [List.length_take]; omega
    have hb1 := bulk_len (strs (ss.take l) : List (DataW H))
    have hb2 : (strs (ss.take l) : List (DataW H)).length = l := by rw [show (strs (ss.take l) : List (DataW H)).length = (ss.take l).length by simp [strs], hlen]
    refine ⟨some a, c, ss.take l, by rw [hlen]; exact hcs, ?_, ⟨by omega, fun t ht => hws t (List.mem_of_mem_take ht)⟩, ?_, fun t ht => ?_⟩
    · by_cases h0 : l = 0
      · subst h0; exact Or.inl rfl
      · right
        have hc0 := hcell 0 (by omega)
        obtain ⟨b, off, spot⟩ := a
        have hspot : spot = none := by simpa [Addr.add] using World.cell?_spot hc0
        subst hspot
        refine ⟨b, off, rfl, fun i hi => ?_⟩
        rw [hlen] at hi
        have := hcell i (by omega)
        rw [addr_add] at this
        rw [this, List.getElem_take, List.getD_eq_getElem?_getD, List.getElem?_eq_getElem (by omega)]
        rfl
    · rw [hx, hlen]
      simp only [Rows.uptoBulk]
      omega
    · rw [hx]
      simp only [Rows.uptoBulk]
      have hm' : (DataW.lit (.string t.data.toList) : DataW H) ∈ strs (ss.take l) := by
        unfold strs
        exact List.mem_map.2 ⟨t, ht, rfl⟩
      have := bulk_mem hm'
      simp only [Rows.uptoBulk] at this
      have e : t.data.toList.length = t.size := by simp
      omega

end Go.Proofs.YtmjchokacmbkoabDoor

/-
  A slice of fields that came in, and its bulk.
-/
namespace Go.Proofs.YtmjchokacmbkoabDoor
open Go.ChangeShapes Go.WideShapes Go.ChangeAt Go.RowKit Go.Lib Go.Deep

theorem sum_le_of {α : Type} (l : List α) (f g : α → Nat) (h : ∀ i ∈ l, f i ≤ g i) : (l.map f).sum ≤ (l.map g).sum := by
  induction l with
  | nil => simp
  | cons a l ih =>
    have h1 := h a (by simp)
    have h2 := ih fun i hi => h i (by simp [hi])
    simp only [List.map_cons, List.sum_cons]
    omega

theorem sum_add_of {α : Type} (l : List α) (f : α → Nat) : (l.map fun i => 1 + f i).sum = l.length + (l.map f).sum := by
  induction l with
  | nil => simp
  | cons a l ih => simp only [List.map_cons, List.sum_cons, List.length_cons, ih]; omega

set_option maxRecDepth 100000 in
theorem open_fieldsU {H : Type} {enc : TypeId × Value → H} {W : World} {b0 : Nat} {v : Value} {dd : DataW H} {p : List MemPlace}
    (hv : Value.okWide Tryd.prog W .any b0 22 v) (h : DataW.Trod enc Tryd.prog W 0 (fun _ => true) true 22 v dd p) : ∃ d : List Fx, IsXs W v d ∧ FitX d ∧ d.length + totF (d.map Fx.fld) ≤ Rows.uptoBulk dd := by
  obtain ⟨a0, len, cap, rfl⟩ := okWide_slice Tryd.underlying22 hv
  obtain ⟨fuel, hf⟩ := h
  rcases open_slice_pairs Tryd.underlying22 Tryd.underlying30 Tryd.cellsFld rfl rfl Tryd.cellsStr Tryd.cellsStrs hf with ⟨hcs, _⟩ | ⟨a, l, c, m, n, V0, V1, D0, D1, P0, P1, hcs, _, hl, hm, hmm, hdat, hall⟩
  · simp [Value.cells] at hcs
    obtain ⟨rfl, rfl, rfl⟩ := hcs
    exact ⟨[], ⟨none, 0, rfl, Or.inl rfl, fun x hx => by simp at hx⟩, ⟨by unfold maxLen; simp, fun x hx => by simp at hx⟩, by simp [totF]⟩
  · simp [Value.cells] at hcs
    obtain ⟨rfl, rfl, rfl⟩ := hcs
    have hm' : m = cap := by simpa using hmm
    subst hm'
    have each : ∀ i, i < m → ∃ x : Fx, V0 i = .string x.name ∧ V1 i = x.sl ∧ TxtAt W x.p x.txt ∧ FitF x.fld ∧ x.txt.length + 1 ≤ Rows.uptoBulk (D1 i) := by
      intro i hi
      obtain ⟨_, _, h3, h4⟩ := hall i hi
      obtain ⟨s, e0, _, hs⟩ := DataW.trod_string Tryd.underlying9 h3
      simp only [List.cons.injEq, and_true] at e0
      obtain ⟨q, cc, ts, e1, ht, hft, hbk, _⟩ := open_txtU h4
      exact ⟨⟨s, q, cc, ts⟩, e0, e1, ht, ⟨hs, hft⟩, hbk⟩
    have hdd : dd = .slice ((List.range len).map fun i => .agg [D0 i, D1 i]) ((List.range (m - len)).map fun j => .agg [D0 (len + j), D1 (len + j)]) := congrArg Prod.fst hdat
    have hbulk : ((List.range len).map fun i => Rows.uptoBulk (D1 i)).sum ≤ Rows.uptoBulk dd := by
      rw [hdd]
      simp only [Rows.uptoBulk, bulk_sum, List.map_map]
      refine Nat.le_trans (sum_le_of (List.range len) _ (Rows.uptoBulk ∘ fun i => DataW.agg [D0 i, D1 i]) fun i _ => ?_) (by omega)
      simp only [Function.comp, Rows.uptoBulk, Rows.uptoBulkAll]
      omega
    by_cases h0 : len = 0
    · subst h0
      exact ⟨[], ⟨_, _, rfl, Or.inl rfl, fun x hx => by simp at hx⟩, ⟨by unfold maxLen; simp, fun x hx => by simp at hx⟩, by simp [totF]⟩
    · have hc0 := (hall 0 (by omega)).1
      obtain ⟨b, off, spot⟩ := a
      have hspot : spot = none := by simpa [Addr.add] using World.cell?_spot hc0
      subst hspot
      let f : Nat → Fx := fun i => if h : i < m then (each i h).choose else default
      have fs : ∀ i (h : i < m), V0 i = .string (f i).name ∧ V1 i = (f i).sl ∧ TxtAt W (f i).p (f i).txt ∧ FitF (f i).fld ∧ (f i).txt.length + 1 ≤ Rows.uptoBulk (D1 i) := fun i h => by
        have e : f i = (each i h).choose := dif_pos h
        rw [e]
        exact (each i h).choose_spec
      have hlen : ((List.range len).map f).length = len := by simp
      refine ⟨(List.range len).map f, ⟨_, m, by rw [hlen], Or.inr ⟨b, off, rfl, fun i hi => ?_⟩, fun x hx => ?_⟩, ⟨by rw [hlen]; omega, fun x hx => ?_⟩, ?_⟩
      · have hi0 : i < len := by simpa using hi
        obtain ⟨h1, h2, _, _⟩ := hall i (by omega)
        obtain ⟨g1, g2, _⟩ := fs i (by omega)
        rw [addr_add] at h1 h2
        have ef : ((List.range len).map f)[i]'hi = f i := by simp
        rw [ef, h1, ← g1]
        refine ⟨rfl, ?_⟩
        rw [Nat.add_assoc, h2, g2]
      · obtain ⟨i, hi, rfl⟩ := List.mem_map.1 hx
        exact (fs i (by have := List.mem_range.1 hi; omega)).2.2.1
      · obtain ⟨i, hi, rfl⟩ := List.mem_map.1 hx
        exact (fs i (by have := List.mem_range.1 hi; omega)).2.2.2.1
      · refine Nat.le_trans ?_ hbulk
        have e1 : totF (((List.range len).map f).map Fx.fld) = ((List.range len).map fun i => (f i).txt.length).sum := by
          unfold totF
          rw [List.map_map, List.map_map]
          rfl
        have e2 := sum_add_of (List.range len) fun i => (f i).txt.length
        rw [e1, hlen]
        rw [List.length_range] at e2
        rw [← e2]
        refine sum_le_of _ _ _ fun i hi => ?_
        have := (fs i (by have := List.mem_range.1 hi; omega)).2.2.2.2
        omega

end Go.Proofs.YtmjchokacmbkoabDoor

/-
  An append of a row that came in, whatever its length; a row of fields whose texts lie elsewhere.
-/
namespace Go.Proofs.YtmjchokacmbkoabDoor
open Go.RowKit Go.Lib

theorem grownBy_refl (w : World) (g : Option Nat) : w.grownBy w g := ⟨rfl, rfl, rfl, Nat.le_refl _, fun _ _ _ => rfl⟩

theorem wpList_append_rows {ops : Array Oper} {rest : List Oper} {o : Oper} {a : Act} {Q : Exit → Act → World → Prop} (w : World) (hgd : o.guard = none) (s x : Operand) (t : TypeId)
    (ho : o.op = .call { callee := .builtin .append, args := #[s, x], argTypes := #[t, t] })
    (base : Nat) (e : TypeId) (i : TypeInfo) (z : Value) (size bytes : Nat) (ht : Tryd.prog.underlying t = some (.slice e)) (hi : Tryd.prog.info? e = some i) (hz : i.zero = some z)
    (hsize : i.size = size) (hby : i.bytes = bytes) (hzs : z.cells.size = size) (hsz : 0 < size)
    (v : Value) (n : Nat) (xs : List Value) (hs : a.eval s = v) (hown : w.ownsRow base e size v n xs)
    (p : Option Addr) (m c : Nat) (news : List Value) (hx : a.eval x = .slice p m c) (hl : news.length = m * size)
    (hsrc : m = 0 ∨ ∃ ad, p = some ad ∧ ∀ j u, news[j]? = some u → w.cell? (ad.add j) = some u) (h1 : ∀ u ∈ news, u.oneCell' = true)
    (h63 : n + m ≤ maxLen) (hbytes : (n + m) * bytes ≤ 140737488355328) (hbase : base ≤ w.heap.size)
    (h : ∀ v' w', w'.ownsRow base e size v' (n + m) (xs ++ news) → w.grownBy w' v.ownBlock → wpList Tryd.prog ops Q rest (a.put o.dst v') w') :
    wpList Tryd.prog ops Q (o :: rest) a w := by
  rcases hsrc with rfl | ⟨ad, rfl, hc⟩
  · have hn : news = [] := List.length_eq_zero_iff.1 (by simpa using hl)
    subst hn
    obtain ⟨q, cap, hv, hcap, hq⟩ : ∃ q cap, v = .slice q n cap ∧ n ≤ cap ∧ (q = none → n = 0 ∧ cap = 0) := by
      rcases hown.2 with ⟨hv, h0⟩ | ⟨g, cap, cur, hv, _, _, hc, _⟩
      · exact ⟨none, 0, by rw [hv, h0], by omega, fun _ => ⟨h0, rfl⟩⟩
      · exact ⟨_, cap, hv, hc, fun h => by cases h⟩
    have hrun : (Builtin.append_ #[t, t] o.type #[.slice q n cap, .slice p 0 c]).run Tryd.prog w = .ok (.slice q n cap) w := by
      cases q with
      | none =>
        obtain ⟨rfl, rfl⟩ := hq rfl
        cases p <;> simp [Builtin.append_, run_underlying ht, Builtin.lenOf, Builtin.firstCells, sizeOf, typeInfo, hi, loadCells, loadCellsFrom]
      | some q =>
        cases p <;> simp [Builtin.append_, run_underlying ht, Builtin.lenOf, Builtin.firstCells, sizeOf, typeInfo, hi, storeCells, loadCells, loadCellsFrom, hcap]
    rw [hv] at hs
    refine wpList_plain hgd fun K hK' => ?_
    unfold Oper.wp
    simp [execOp, ho, resolve, invoke, builtin, hs, hx, hrun, Result.andThen]
    refine hK' _ _ (h _ _ ?_ (grownBy_refl _ _))
    rw [← hv, List.append_nil]
    exact hown
  · exact wpList_append_own _ hgd s x t ho base e i z size bytes ht hi hz hsize hby hzs hsz v n xs hs hown ad m c news hx hl hc h1 h63 hbytes hbase (fun v' w' h2 h3 _ => h v' w' h2 h3)

/-- v owns a row of the fields d, in a block at or behind n0; their texts lie anywhere. -/
def RowX (n0 : Nat) (w : World) (v : Value) (d : List Fx) : Prop := w.ownsRow n0 30 2 v d.length (cellsX d)

theorem RowX.is {n0 : Nat} {w : World} {v : Value} {d : List Fx} (h1 : RowX n0 w v d) (h2 : ∀ x ∈ d, x.at w) : IsXs w v d := by
  rcases h1.2 with ⟨rfl, h0⟩ | ⟨g, c, cur, rfl, _, hg, _, _, hsz, htk⟩
  · obtain rfl := List.length_eq_zero_iff.1 h0
    exact ⟨none, 0, rfl, Or.inl rfl, fun x hx => by simp at hx⟩
  · refine ⟨_, c, rfl, Or.inr ⟨g, 0, rfl, fun i hi => ?_⟩, h2⟩
    obtain ⟨c0, c1⟩ := cellsX_get d i hi
    have e : ∀ j, j < d.length * 2 → (cellsX d)[j]? = cur[j]? := fun j hj => by
      rw [← htk, List.getElem?_take, if_pos hj, Array.getElem?_toList]
    rw [Nat.zero_add, cell_of_row w g _ cur _ _ hg, cell_of_row w g _ cur _ _ hg, ← e _ (by omega), ← e _ (by omega)]
    exact ⟨c0, c1⟩

/-- What a slice of fields gives an append. -/
theorem src_xs {w : World} {p : Option Addr} {d : List Fx} (h : d = [] ∨ ∃ b off, p = some ⟨b, off, none⟩ ∧ XsAt w b off d) :
    d.length = 0 ∨ ∃ ad, p = some ad ∧ ∀ j u, (cellsX d)[j]? = some u → w.cell? (ad.add j) = some u := by
  rcases h with rfl | ⟨b, off, rfl, hx⟩
  · exact Or.inl rfl
  · refine Or.inr ⟨_, rfl, fun j u hu => ?_⟩
    have hj : j < d.length * 2 := by
      have := (List.getElem?_eq_some_iff.1 hu).1
      rwa [cellsX_len] at this
    have hk : j / 2 < d.length := by omega
    obtain ⟨c0, c1⟩ := cellsX_get d (j / 2) hk
    obtain ⟨m0, m1⟩ := hx (j / 2) hk
    rw [addr_add]
    by_cases e : j % 2 = 0
    · have ej : j = j / 2 * 2 := by omega
      rw [ej] at hu ⊢
      rw [c0] at hu
      rw [m0]; exact hu
    · have ej : j = j / 2 * 2 + 1 := by omega
      rw [ej] at hu ⊢
      rw [c1] at hu
      rw [← Nat.add_assoc, m1]; exact hu

/-- What a slice of texts gives an append. -/
theorem src_ts {w : World} {p : Option Addr} {ts : List ByteArray} (h : TxtAt w p ts) :
    ts.length = 0 ∨ ∃ ad, p = some ad ∧ ∀ j u, (ts.map Value.string)[j]? = some u → w.cell? (ad.add j) = some u := by
  rcases h with rfl | ⟨b, off, rfl, hx⟩
  · exact Or.inl rfl
  · refine Or.inr ⟨_, rfl, fun j u hu => ?_⟩
    have hj : j < ts.length := by simpa using (List.getElem?_eq_some_iff.1 hu).1
    rw [addr_add, hx j hj]
    rw [List.getElem?_map, List.getElem?_eq_getElem hj] at hu
    exact hu

theorem txts_one (ts : List ByteArray) : ∀ u ∈ ts.map Value.string, u.oneCell' = true := by
  intro u hu
  obtain ⟨t, _, rfl⟩ := List.mem_map.1 hu
  rfl

/-- What the reference's Texts answers. -/
def RtPost (w : World) (ts : List ByteArray) (e : Ending) (w' : World) : Prop := (∃ p c, e = .returned (.slice p ts.length c) ∧ TxtAt w p ts) ∧ w' = w

set_option maxHeartbeats 2000000 in
set_option maxRecDepth 100000 in
theorem rtexts_any (v : Value) (nm : ByteArray) (d : List Fx) (w : World) (hv : IsXs w v d) (hf : FitX d) :
    Calls Tryd.prog 12 #[v, .string nm] w fun e w' => RtPost w (textsOf (d.map Fx.fld) nm) e w' := by
  obtain ⟨p, cap, rfl, hd, ht⟩ := hv
  have HT := hid ht
  have HD := hid hd
  have hl := hf.1
  unfold maxLen at hl
  clear ht hd hf
  go_enter Tryd.func12, Tryd.ntmps12
  go_wp2_with fail
  go_loopg [5] d.length (fun g vi wr => ∃ i : Nat, vi = .int .i64 i ∧ i ≤ d.length ∧ d.length - i ≤ g ∧ w = wr ∧ Hid (∀ j (h : j < d.length), j < i → d[j].name ≠ nm))
  case atStart => exact ⟨0, rfl, by omega, by omega, rfl, fun j _ h => by omega⟩
  case round =>
    obtain ⟨i, rfl, hi, hg, rfl, HJ⟩ := hrel
    by_cases hlt : i < d.length
    · have hltz : (i : Int) < (d.length : Int) := by omega
      have hiz : (0 : Int) ≤ i := by omega
      obtain ⟨b, off, rfl, hxs⟩ : ∃ b off, p = some ⟨b, off, none⟩ ∧ XsAt w b off d := by
        rcases HD.out with h | h
        · subst h; simp at hlt
        · exact h
      obtain ⟨c0, c1⟩ := hxs i hlt
      have hxi : (d[i]).at w := HT.out _ (List.getElem_mem hlt)
      have hyes : d[i].name = nm → textsOf (d.map Fx.fld) nm = d[i].txt := fun e => by
        have := textsOf_at (d.map Fx.fld) nm i (by rw [List.length_map]; exact hlt) (fun j hj => by simp only [List.getElem_map]; exact HJ.out j (by omega) hj) (by simp only [List.getElem_map]; exact e)
        simpa [Fx.fld] using this
      have hnx : d[i].name ≠ nm → ∀ j (h : j < d.length), j < i + 1 → d[j].name ≠ nm := fun e j h hj => by
        by_cases ej : j = i
        · subst ej; exact e
        · exact HJ.out j h (by omega)
      obtain ⟨x, hx⟩ : ∃ x, d[i] = x := ⟨_, rfl⟩
      rw [hx] at c0 c1 hxi hyes hnx
      have HXI := hid hxi
      have HYES := hid hyes
      have HNX := hid hnx
      clear hxs hxi hx hyes hnx
      unfold Fx.sl at c1
      cases hq : (x.name.toList == nm.toList) with
      | true =>
        have hq2 : x.name = nm := by rw [toList_eq, decide_eq_true_eq] at hq; exact hq
        have HQ := hid (HYES.out hq2)
        clear hq2
        go_wp2_with fail
        go_ret
        rw [HQ.out]
        exact ⟨⟨_, _, rfl, HXI.out⟩, rfl⟩
      | false =>
        have hq2 : x.name ≠ nm := by rw [toList_eq, decide_eq_false_iff_not] at hq; exact hq
        have HQ := hid (HNX.out hq2)
        clear hq2
        go_wp2_with fail
        go_roundg (d.length - (i + 1))
        case measure => omega
        exact ⟨i + 1, by go_num, by omega, by omega, rfl, HQ.out⟩
    · have hltz : ¬ (i : Int) < (d.length : Int) := by omega
      have H0 : Hid (textsOf (d.map Fx.fld) nm = []) := textsOf_no _ _ (fun j hj => by
        rw [List.length_map] at hj
        simp only [List.getElem_map]
        exact HJ.out j hj (by omega))
      go_wp2_with fail
      go_ret
      rw [H0.out]
      exact ⟨⟨none, 0, rfl, Or.inl rfl⟩, rfl⟩

end Go.Proofs.YtmjchokacmbkoabDoor

/-
  How long a value's bytes are, and how many blanks its line has.
-/
namespace Go.Proofs.YtmjchokacmbkoabDoor
open Go.RowKit Go.Lib

/-- What ValueSizes counts. -/
def cntF (f : Fld) : Nat := 2 + f.1.size + (f.2.map fun t => 1 + t.size).sum
def cntB (fs : List Fld) : Nat := 1 + (fs.map cntF).sum

theorem encTs_len (ts : List ByteArray) : (ts.flatMap encT).length = (ts.map fun t => 1 + t.size).sum := by
  induction ts with
  | nil => rfl
  | cons t ts ih =>
    rw [List.flatMap_cons, List.length_append, encT_len, ih, List.map_cons, List.sum_cons]
    omega

theorem encF_cnt (f : Fld) : (encF f).length = cntF f := by
  unfold encF cntF
  rw [List.length_append, List.length_append, encT_len, encTs_len]
  simp only [List.length_cons, List.length_nil]
  omega

theorem encL_cnt (fs : List Fld) : (encL fs).length = cntB fs := by
  unfold encL cntB
  rw [List.length_cons]
  have : (fs.flatMap encF).length = (fs.map cntF).sum := by
    induction fs with
    | nil => rfl
    | cons f fs ih => rw [List.flatMap_cons, List.length_append, encF_cnt, ih, List.map_cons, List.sum_cons]
  omega

/-- The blanks of a text. -/
def blanks (l : List UInt8) : Nat := l.countP fun c => c == 32

theorem blanks_append (a b : List UInt8) : blanks (a ++ b) = blanks a + blanks b := List.countP_append ..

theorem blanks_join : ∀ ws : List (List UInt8), (∀ w ∈ ws, blanks w = 0) → blanks (Lib.join ws [32]) = ws.length - 1
  | [], _ => rfl
  | [w], h => by
    have := h w (by simp)
    simpa [Lib.join] using this
  | w :: v :: ws, h => by
    have h1 := h w (by simp)
    have ih := blanks_join (v :: ws) (fun x hx => h x (by simp [hx]))
    have e : Lib.join (w :: v :: ws) [32] = w ++ [32] ++ Lib.join (v :: ws) [32] := by simp [Lib.join]
    rw [e, blanks_append, blanks_append, h1, ih]
    simp [blanks]
    omega

theorem field_noblank {l : List UInt8} (h : fieldB l = true) : blanks l = 0 := by
  unfold blanks
  rw [List.countP_eq_zero]
  intro c hc
  unfold fieldB spell at h
  cases l with
  | nil => simp at hc
  | cons x r =>
    simp only [Bool.and_eq_true, List.all_eq_true] at h
    have key : lodB (c.toNat : Int) = true ∨ smallB (c.toNat : Int) = true := by
      rcases List.mem_cons.1 hc with rfl | hc
      · exact Or.inr h.1.2
      · exact Or.inl (h.2 c hc)
    intro e
    have e : c = 32 := by simpa using e
    subst e
    rcases key with k | k
    · revert k; decide
    · revert k; decide

theorem hexd_noblank (k : Nat) (h : k < 16) : (hexd k == 32) = false := by
  have t : ((List.range 16).all fun k => !(hexd k == 32)) = true := by decide
  have := List.all_eq_true.1 t k (List.mem_range.2 h)
  simpa using this

theorem write_noblank (l : List UInt8) : blanks (writeL l) = 0 := by
  induction l with
  | nil => rfl
  | cons c l ih =>
    rw [writeL_cons, blanks_append, ih]
    unfold writeC
    cases hp : plainB (c.toNat : Int) with
    | true =>
      have : (c == 32) = false := by
        rw [beq_eq_false_iff_ne]
        intro e
        subst e
        revert hp; decide
      simp [blanks, this]
    | false =>
      have hc := c.toNat_lt
      simp [blanks, hexd_noblank (c.toNat / 16) (by omega), hexd_noblank (c.toNat % 16) (by omega)]

theorem word_data (n t : ByteArray) : (wordOf n t).data.toList = n.data.toList ++ [61] ++ writeL t.data.toList := by
  unfold wordOf
  obtain ⟨⟨n⟩⟩ := n
  simp

theorem word_noblank {n t : ByteArray} (h : fieldB n.data.toList = true) : blanks (wordOf n t).data.toList = 0 := by
  rw [word_data, blanks_append, blanks_append, field_noblank h, write_noblank]
  rfl

theorem words_cnt (fs : List Fld) : (wordsL fs).length = totF fs := by
  unfold wordsL totF
  induction fs with
  | nil => rfl
  | cons f fs ih => rw [List.flatMap_cons, List.length_append, ih]; simp [wordsF]

theorem line_blanks {fs : List Fld} (h : mayB fs = true) : blanks (lineOf fs).data.toList = totF fs - 1 := by
  unfold lineOf
  show blanks (Lib.join ((wordsL fs).map (·.data.toList)) [32]).toArray.toList = _
  rw [List.toList_toArray, blanks_join, List.length_map, words_cnt]
  intro w hw
  obtain ⟨x, hx, rfl⟩ := List.mem_map.1 hw
  obtain ⟨f, hf, hx⟩ := List.mem_flatMap.1 hx
  obtain ⟨t, _, rfl⟩ := List.mem_map.1 hx
  exact word_noblank (fits_parts (may_fits h f hf)).2.2.2.2

theorem line_empty (fs : List Fld) : (lineOf fs).size = 0 ↔ totF fs = 0 := by
  have e : (lineOf fs).size = (Lib.join ((wordsL fs).map (·.data.toList)) [32]).length := by
    show (Lib.join ((wordsL fs).map (·.data.toList)) [32]).toArray.size = _
    simp
  rw [e, ← words_cnt]
  cases hw : wordsL fs with
  | nil => simp [Lib.join, List.intercalate]
  | cons x r =>
    have hx : x ∈ wordsL fs := by rw [hw]; simp
    obtain ⟨f, hf, hx⟩ := List.mem_flatMap.1 hx
    obtain ⟨t, _, rfl⟩ := List.mem_map.1 hx
    have hl : 0 < (wordOf f.1 t).data.toList.length := by rw [word_data]; simp; omega
    constructor
    · intro h
      exfalso
      cases r with
      | nil =>
        rw [List.map_cons, List.map_nil, Lib.join_one] at h
        omega
      | cons y r =>
        have : Lib.join ((wordOf f.1 t :: y :: r).map (·.data.toList)) [32] = (wordOf f.1 t).data.toList ++ [32] ++ Lib.join ((y :: r).map (·.data.toList)) [32] := by simp [Lib.join]
        rw [this] at h
        simp at h
    · intro h; simp at h

theorem join_size (c : Nat) : ∀ ws : List (List UInt8), (∀ w ∈ ws, w.length ≤ c) → (Lib.join ws [32]).length ≤ ws.length * (c + 1)
  | [], _ => by simp [Lib.join, List.intercalate]
  | [w], h => by
    have := h w (by simp)
    rw [Lib.join_one]
    simp
    omega
  | w :: v :: ws, h => by
    have h1 := h w (by simp)
    have ih := join_size c (v :: ws) (fun x hx => h x (by simp [hx]))
    have e : Lib.join (w :: v :: ws) [32] = w ++ [32] ++ Lib.join (v :: ws) [32] := by simp [Lib.join]
    have e2 : (w :: v :: ws).length * (c + 1) = (v :: ws).length * (c + 1) + (c + 1) := by rw [List.length_cons, Nat.add_mul, Nat.one_mul]
    have e3 : ([32] : List UInt8).length = 1 := rfl
    rw [e, List.length_append, List.length_append, e2, e3]
    omega

theorem line_size {fs : List Fld} (h : mayB fs = true) : (lineOf fs).size ≤ 53504 := by
  have e : (lineOf fs).size = (Lib.join ((wordsL fs).map (·.data.toList)) [32]).length := by
    show (Lib.join ((wordsL fs).map (·.data.toList)) [32]).toArray.size = _
    simp
  have h1 := join_size 417 ((wordsL fs).map (·.data.toList)) (fun w hw => by
    obtain ⟨x, hx, rfl⟩ := List.mem_map.1 hw
    obtain ⟨f, hf, hx⟩ := List.mem_flatMap.1 hx
    obtain ⟨t, ht, rfl⟩ := List.mem_map.1 hx
    simpa using word_len (may_fits h f hf) ht)
  have h2 := wordsL_len (fun f hf => may_fits h f hf) (may_parts h).1
  rw [List.length_map] at h1
  have h3 : (wordsL fs).length * (417 + 1) ≤ 128 * (417 + 1) := Nat.mul_le_mul_right _ h2
  omega

theorem cnt_small {fs : List Fld} (h : mayB fs = true) (i : Nat) : 1 + ((fs.take i).map cntF).sum ≤ 17057 := by
  have h1 : ((fs.take i).map cntF).sum = ((fs.take i).flatMap encF).length := by
    generalize fs.take i = gs
    induction gs with
    | nil => rfl
    | cons f gs ih => rw [List.flatMap_cons, List.length_append, encF_cnt, ← ih, List.map_cons, List.sum_cons]
  have := enc_ahead h i
  omega

theorem tot_small {fs : List Fld} (h : mayB fs = true) (i : Nat) : totF (fs.take i) ≤ 128 := by
  rw [← words_cnt]
  refine wordsL_len (fun f hf => may_fits h f (List.mem_of_mem_take hf)) ?_
  have := (may_parts h).1
  rw [List.length_take]
  omega

end Go.Proofs.YtmjchokacmbkoabDoor

/-
  ValueJoins answers true, where the fields and their texts are few enough to be copied.
-/
namespace Go.Proofs.YtmjchokacmbkoabDoor
open Go.RowKit Go.Lib

theorem may_rising {fs : List Fld} (h : mayB fs = true) : Rising fs := by
  have hs := (may_parts h).2
  have step : ∀ i, (hi : i + 1 < fs.length) → ltB (fs[i]).1 (fs[i + 1]).1 = true := fun i hi => by
    have := hs (i + 1) hi
    unfold stepOk at this
    rw [Bool.and_eq_true, Bool.or_eq_true] at this
    rcases this.2 with h | h
    · have := of_decide_eq_true h; omega
    · rw [ltN_eq, Nat.add_sub_cancel, List.getD_eq_getElem?_getD, List.getD_eq_getElem?_getD, List.getElem?_eq_getElem hi, List.getElem?_eq_getElem (show i < fs.length by omega)] at h
      exact h
  refine List.pairwise_iff_getElem.2 fun i j hi hj hij => ?_
  induction j with
  | zero => omega
  | succ j ih =>
    by_cases e : i = j
    · subst e; exact step i hj
    · exact ltB_trans (ih (by omega) (by omega)) (step j hj)

theorem rising_txt {fs : List Fld} (h : Rising fs) : ∀ f ∈ fs, f.2 = txtOf fs f.1 := by
  intro f hf
  obtain ⟨a, b, rfl⟩ := List.append_of_mem hf
  have hr := List.pairwise_append.1 h
  have hr2 := List.pairwise_cons.1 hr.2.1
  have ha : a.filter (fun x => decide (x.1 = f.1)) = [] := List.filter_eq_nil_iff.2 fun x hx e => ltB_ne (hr.2.2 x hx f (by simp)) (by simpa using e)
  have hb : b.filter (fun x => decide (x.1 = f.1)) = [] := List.filter_eq_nil_iff.2 fun x hx e => ltB_ne (hr2.1 x hx) (Eq.symm (of_decide_eq_true e))
  unfold txtOf
  rw [List.filter_append, ha, List.filter_cons_of_pos (by simp), hb]
  simp

theorem may_nobare {fs : List Fld} (h : mayB fs = true) : fs.any bareB = false := by
  rw [List.any_eq_false]
  intro f hf hb
  have h1 := (fits_parts (may_fits h f hf)).2.1
  have h2 := List.isEmpty_iff.1 hb
  rw [h2] at h1
  simp at h1

/-- Norm of what is normal. -/
theorem norm_again {fs : List Fld} (h : mayB fs = true) : codeF fs = 0 ∧ ansF fs = fs := by
  have hr := may_rising h
  have hn : normF fs = fs := groups_unique (normF_groups _) ⟨hr, fun _ => Iff.rfl, rising_txt hr⟩
  have hm : fs.any misB = false := by
    rw [List.any_eq_false]
    intro f hf
    have := (fits_parts (may_fits h f hf)).2.2.2.2
    simp [misB, this]
  have hc : codeF fs = 0 := by unfold codeF; rw [hm, hn, may_nobare h, h]; rfl
  exact ⟨hc, by unfold ansF; rw [hc, hn]; rfl⟩

theorem texts_rising {fs : List Fld} (h : Rising fs) {i : Nat} (hi : i < fs.length) : textsOf fs (fs[i]).1 = (fs[i]).2 :=
  textsOf_at fs _ i hi (fun _ hj e => ltB_ne (h.get hj hi) e) rfl

theorem fit_append {a b : List Fx} (ha : FitX a) (hb : FitX b) (h : a.length + b.length ≤ maxLen) : FitX (a ++ b) := by
  refine ⟨by rw [List.length_append]; exact h, fun x hx => ?_⟩
  rw [List.mem_append] at hx
  rcases hx with hx | hx
  · exact ha.2 x hx
  · exact hb.2 x hx

theorem own_nil {N : Nat} (w : World) (h : N ≤ w.heap.size) : RowX N (w.alloc (.cells #[] 30)) (.slice (some ⟨w.heap.size, 0, none⟩) 0 0) [] :=
  World.ownsRow_lit w #[] 0 h (by decide) rfl

set_option maxHeartbeats 8000000 in
set_option maxRecDepth 100000 in
theorem joins_any (v u : Value) (da db : List Fx) (w : World) (hp : PlainAt w) (hv : IsXs w v da) (hu : IsXs w u db) (hfa : FitX da) (hfb : FitX db) (hl : da.length + db.length ≤ 2000000) (htot : totF (da.map Fx.fld) + totF (db.map Fx.fld) ≤ 2000000) :
    Calls Tryd.prog 3 #[v, u] w fun e w' => e = .returned (.bool true) ∧ Below w.heap.size w w' := by
  obtain ⟨j0, hj0, hy0, hy1, hy2⟩ := info_parts Tryd.infoFld
  obtain ⟨i0, hi0, hz0, hz1, hz2⟩ := info_parts Tryd.infoStr
  have HJ := hid hj0
  have HI := hid hi0
  have HV := hid hv
  have HU := hid hu
  have HFA := hid hfa
  have HFB := hid hfb
  have HP := hid hp
  have htl : totF ((da ++ db).map Fx.fld) ≤ 2000000 := by rw [List.map_append, totF_append]; exact htot
  have HTL := hid htl
  have hln : (da ++ db).length ≤ 2000000 := by rw [List.length_append]; exact hl
  have HLN := hid hln
  have hfd : FitX (da ++ db) := fit_append hfa hfb (by unfold maxLen; omega)
  have HFD := hid hfd
  clear hj0 hi0 hv hu hfa hfb hp htot htl hln hfd
  obtain ⟨pa, ca, rfl, hda, hta⟩ := HV.out
  obtain ⟨pb, cb, rfl, hdb, htb⟩ := HU.out
  have HDA := hid hda
  have HDB := hid hdb
  have HTA := hid hta
  have HTB := hid htb
  clear hda hdb hta htb
  go_enter Tryd.func3, Tryd.ntmps3
  have KSA : Hid (∀ W, Below w.heap.size w W → da.length = 0 ∨ ∃ ad, pa = some ad ∧ ∀ j u, (cellsX da)[j]? = some u → W.cell? (ad.add j) = some u) := fun W hW => src_xs (by
    rcases HDA.out with h | ⟨b, off, h1, h2⟩
    · exact Or.inl h
    · exact Or.inr ⟨b, off, h1, h2.kept hW⟩)
  have KSB : Hid (∀ W, Below w.heap.size w W → db.length = 0 ∨ ∃ ad, pb = some ad ∧ ∀ j u, (cellsX db)[j]? = some u → W.cell? (ad.add j) = some u) := fun W hW => src_xs (by
    rcases HDB.out with h | ⟨b, off, h1, h2⟩
    · exact Or.inl h
    · exact Or.inr ⟨b, off, h1, h2.kept hW⟩)
  go_wp2_with (first
    | (go_at_call 6; refine (fixed_any _ HP.out).mono ?_; rintro e w1 ⟨rfl, q1⟩; have hw1 := q1.size; have qa := q1.alloc hw1 (.cells #[] 30); have HN0 := hid (own_nil (N := w.heap.size) w1 hw1); unfold RowX at HN0)
    | (at_builtin; refine wpList_append_rows _ rfl _ _ 22 rfl w.heap.size 30 j0 (.agg #[.string ⟨#[]⟩, .slice none 0 0]) 2 40 Tryd.underlying22 HJ.out hy0 hy1 hy2 rfl (by decide) _ _ _ rfl HN0.out pa da.length ca (cellsX da) rfl (cellsX_len da) (KSA.out _ qa) (cellsX_one _) (by unfold maxLen; simp; omega) (by simp; omega) (by simp; omega) ?_; intro v2 w2 hown2 hg2; have hb2 : Below w.heap.size w w2 := qa.grown hg2 (by simp; omega) (fun k hk => (World.ownsRow.lt HN0.out k hk).1); have hw2 := hb2.size; have HO2 := hid hown2; have HB2 := hid hb2; clear hown2 hg2)
    | (at_builtin; refine wpList_append_rows _ rfl _ _ 22 rfl w.heap.size 30 j0 (.agg #[.string ⟨#[]⟩, .slice none 0 0]) 2 40 Tryd.underlying22 HJ.out hy0 hy1 hy2 rfl (by decide) _ _ _ rfl HO2.out pb db.length cb (cellsX db) rfl (cellsX_len db) (KSB.out _ HB2.out) (cellsX_one _) (by unfold maxLen; simp; omega) (by simp; omega) hw2 ?_; intro v3 w3 hown3 hg3))
  have hrx : RowX w.heap.size w3 v3 (da ++ db) := by
    unfold RowX
    rw [cellsX_append, List.length_append]
    simpa [cellsX] using hown3
  have hb3 : Below w.heap.size w w3 := HB2.out.grown hg3 hw2 (fun k hk => (World.ownsRow.lt HO2.out k hk).1)
  have his : IsXs w3 v3 (da ++ db) := hrx.is fun x hx => by
    rw [List.mem_append] at hx
    rcases hx with hx | hx
    · exact (HTA.out x hx).kept hb3
    · exact (HTB.out x hx).kept hb3
  have HB3 := hid hb3
  have HIS := hid his
  have hw3 := hb3.size
  clear hown3 hg3 hrx hb3 his HO2 HB2 HN0
  obtain ⟨D, hD⟩ : ∃ D, da ++ db = D := ⟨_, rfl⟩
  rw [hD] at HIS HTL HLN HFD
  clear hD
  have HNM := hid (norm_plain v3 D w3 HIS.out HFD.out (by have := HLN.out; omega) (by have := HTL.out; omega))
  obtain ⟨fs, hfs⟩ : ∃ fs, D.map Fx.fld = fs := ⟨_, rfl⟩
  rw [hfs] at HNM HTL
  have HFS := hid hfs
  clear hfs
  obtain ⟨p3, c3, hv3, hd3, ht3⟩ := HIS.out
  subst hv3
  have HD3 := hid hd3
  have HT3 := hid ht3
  clear hd3 ht3
  obtain ⟨kc, hkc⟩ : ∃ kc, codeF fs = kc := ⟨_, rfl⟩
  have HKC := hid hkc
  clear hkc
  obtain ⟨Bz, hBz⟩ : ∃ B, (kc == 0) = B := ⟨_, rfl⟩
  have HBZ := hid hBz
  go_upto_if 28 with (first | (go_at_call 7; refine HNM.out.mono ?_; rintro e w4 ⟨⟨u4, d4, rfl, o4, m4⟩, q4⟩; rw [HKC.out]; have O4 := hid o4; have M4 := hid m4; have Q4 := hid q4; have hw4 := q4.size; clear o4 m4 q4))
  clear hBz
  go_cut [8] from 9 (fun _ wx => Hid (Below w3.heap.size w3 wx))
  case first =>
    cases Bz with
    | false =>
      go_wp2_with fail
      go_meet
      case rel => exact Q4
    | true =>
      have hk0 : kc = 0 := by simpa using HBZ.out
      have hz := codeF_zero (HKC.out.trans hk0)
      have hm4 : d4.map Fx.fld = normF fs := by rw [M4.out]; unfold ansF; rw [HKC.out, hk0]; rfl
      have hmay : mayB (d4.map Fx.fld) = true := by rw [hm4]; exact hz.2.2
      have hag := norm_again hmay
      have hf4 := may_fit hmay rfl
      have hl4 := (may_parts hmay).1
      rw [List.length_map] at hl4
      have ht4 : totF (d4.map Fx.fld) ≤ 128 := by
        have := tot_small hmay d4.length
        rwa [List.take_of_length_le (by rw [List.length_map]; exact Nat.le_refl _)] at this
      have HN2 := hid (norm_plain u4 d4 w4 O4.out.is hf4 (by omega) (by omega))
      have HM4 := hid hm4
      have HMAY := hid hmay
      have HAG := hid hag
      have HF4 := hid hf4
      have HR4 := hid (may_rising hmay)
      have HG4 := hid (normF_groups fs)
      rw [← HM4.out] at HG4
      have HT16 : Hid (∀ x ∈ d4, x.txt.length * 16 ≤ 140737488355328) := fun x hx => by
        have := totF_mem (List.mem_map.2 ⟨x, hx, rfl⟩ : x.fld ∈ d4.map Fx.fld)
        have e : x.fld.2.length = x.txt.length := rfl
        omega
      clear hz hm4 hmay hag hf4 ht4
      obtain ⟨pu, cu, hvu, hdu, htu⟩ := O4.out.is
      subst hvu
      have HDU := hid hdu
      have HIU := hid O4.out.is
      clear hdu htu
      subst hk0
      go_wp2_with (first
        | (go_at_call 7; refine HN2.out.mono ?_; rintro e w5 ⟨⟨u5, d5, rfl, o5, m5⟩, q5⟩; rw [HAG.out.1]; rw [HAG.out.2] at m5; have HEQ := hid (equal_any u5 (.slice pu d4.length cu) d5 d4 w5 o5.is (HIU.out.kept q5) (may_fit HMAY.out m5) HF4.out); rw [show decide (d5.map Fx.fld = d4.map Fx.fld) = true from decide_eq_true m5] at HEQ; clear o5 m5)
        | (go_at_call 8; refine HEQ.out.mono ?_; rintro e w6 ⟨rfl, q6⟩))
      have HB6 : Hid (Below w4.heap.size w4 w6) := bel_then q5 q5.size q6.below
      clear HN2 HEQ
      go_loopg [44] d4.length (fun g vi ws => ∃ i : Nat, vi = .int .i64 i ∧ i ≤ d4.length ∧ d4.length - i ≤ g ∧ Hid (Below w4.heap.size w4 ws))
      case atStart => exact ⟨0, rfl, by omega, by omega, HB6⟩
      case round =>
      clear HB6 q5 q6
      obtain ⟨i, rfl, hi, hgi, HBI⟩ := hrel
      by_cases hlt : i < d4.length
      · have hltz : (i : Int) < (d4.length : Int) := by omega
        have hiz : (0 : Int) ≤ (i : Int) := by omega
        obtain ⟨b, off, rfl, hxs⟩ : ∃ b off, pu = some ⟨b, off, none⟩ ∧ XsAt w4 b off d4 := by
          rcases HDU.out with h | h
          · subst h; simp at hlt
          · exact h
        obtain ⟨c0, c1⟩ := hxs.kept HBI.out i hlt
        unfold Fx.sl at c1
        have hg4 : (d4[i]).txt = txtOf fs (d4[i]).name := HG4.out.texts _ (List.mem_map.2 ⟨_, List.getElem_mem hlt, rfl⟩)
        have ht4 : textsOf (d4.map Fx.fld) (d4[i]).name = (d4[i]).txt := by
          have := texts_rising HR4.out (i := i) (by rw [List.length_map]; exact hlt)
          simpa [Fx.fld] using this
        obtain ⟨x, hx⟩ : ∃ x, d4[i] = x := ⟨_, rfl⟩
        rw [hx] at c0 c1 hg4 ht4
        obtain ⟨nm, xp, xc, xt⟩ := x
        simp only at c0 c1 hg4 ht4
        have HGX := hid hg4
        have HTX := hid ht4
        have hszi := HBI.out.size
        obtain ⟨W0, hW0⟩ : ∃ W0, wr.alloc (.cells #[.string nm, .slice xp xt.length xc] 30) = W0 := ⟨_, rfl⟩
        have HB0 : Hid (Below w4.heap.size w4 W0) := by rw [← hW0]; exact HBI.out.alloc hszi _
        obtain ⟨F, hF⟩ : ∃ F, wr.heap.size = F := ⟨_, rfl⟩
        have HFF : Hid (∀ W, Below W0.heap.size W0 W → W.cell? ⟨F, 0, none⟩ = some (.string nm)) := fun W hW => by
          rw [← hW0, ← hF] at *
          exact (hW.cell (p := ⟨wr.heap.size, 0, none⟩) (by simp)).trans (by simp)
        have IN0 : Hid (OwnT W0.heap.size W0 (.slice none 0 0) [] ∧ Below W0.heap.size W0 W0) := ⟨World.ownsRow_nil _ _ _ _, Below.refl _ _⟩
        clear hxs hx hg4 ht4
        go_wp2_with fail
        clear hW0 hF c0 c1
        go_loopg [12, 50] D.length (fun g vl vj ws => ∃ (j : Nat) (ts : List ByteArray), vj = .int .i64 j ∧ j ≤ D.length ∧ D.length - j ≤ g ∧ Hid (OwnT W0.heap.size ws vl ts) ∧ Hid (ts = txtOf (fs.take j) nm) ∧ Hid (Below W0.heap.size W0 ws))
        case atStart => exact ⟨0, [], rfl, by omega, by omega, IN0.out.1, (show Hid _ from by simp [Hid, txtOf]), IN0.out.2⟩
        case round =>
        clear IN0
        obtain ⟨j, ts, rfl, hj, hgj, HOT, HTS, HBJ⟩ := hrel
        have HBJ4 : Hid (Below w4.heap.size w4 wr) := bel_then HB0.out HB0.out.size HBJ.out
        have HBJ3 : Hid (Below w3.heap.size w3 wr) := bel_then Q4.out hw4 HBJ4.out
        have hszj := HBJ.out.size
        have hDl := HLN.out
        by_cases hlj : j < D.length
        · have hljz : (j : Int) < (D.length : Int) := by omega
          have hjz : (0 : Int) ≤ (j : Int) := by omega
          obtain ⟨b3, off3, rfl, hxs3⟩ : ∃ b off, p3 = some ⟨b, off, none⟩ ∧ XsAt w3 b off D := by
            rcases HD3.out with h | h
            · subst h; simp at hlj
            · exact h
          obtain ⟨c0, c1⟩ := hxs3.kept HBJ3.out j hlj
          unfold Fx.sl at c1
          have hty := HT3.out _ (List.getElem_mem hlj)
          have htk : txtOf (fs.take (j + 1)) nm = txtOf (fs.take j) nm ++ if (D[j]).name = nm then (D[j]).txt else [] := by rw [← HFS.out]; exact txtOf_step hlj nm
          have hyl : (D[j]).txt.length ≤ 2000000 := by
            have h1 := totF_mem (List.mem_map.2 ⟨_, List.getElem_mem hlj, rfl⟩ : (D[j]).fld ∈ D.map Fx.fld)
            rw [HFS.out] at h1
            have h2 := HTL.out
            have e : (D[j]).fld.2.length = (D[j]).txt.length := rfl
            omega
          have htl : ts.length ≤ 2000000 := by
            have h1 := HTS.out
            have h2 := txtOf_len (fs.take j) nm
            have h3 := totF_take fs j
            have h4 := HTL.out
            rw [h1]; omega
          obtain ⟨y, hy⟩ : ∃ y, D[j] = y := ⟨_, rfl⟩
          rw [hy] at c0 c1 hty htk hyl
          obtain ⟨yn, yp, yc, yt⟩ := y
          simp only at c0 c1 htk hyl
          have hty2 : TxtAt w3 yp yt := hty
          have HTY := hid hty2
          have HTK := hid htk
          have q0 : (wr.alloc (.cells #[.string yn, .slice yp yt.length yc] 30)).cell? ⟨F, 0, none⟩ = some (.string nm) := HFF.out _ (HBJ.out.alloc hszj _)
          clear hxs3 hty hty2 htk hy
          by_cases hnm : yn = nm
          · have hq := eq_true hnm
            rw [if_pos hnm] at HTK
            clear hnm
            go_wp2_with (first | (at_builtin; refine wpList_append_rows _ rfl _ _ 28 rfl W0.heap.size 9 i0 (.string ⟨#[]⟩) 1 16 Tryd.underlying28 HI.out hz0 hz1 hz2 rfl (by decide) _ _ _ rfl (World.ownsRow.alloc HOT.out _) yp yt.length yc (yt.map Value.string) rfl (by simp) (src_ts (HTY.out.kept (HBJ3.out.alloc HBJ3.out.size _))) (txts_one _) (by unfold maxLen; omega) (by omega) (by simp; omega) ?_))
            intro v7 w7 hown7 hg7
            have HO7 : Hid (OwnT W0.heap.size w7 v7 (ts ++ yt)) := by
              show OwnT _ _ _ _
              unfold OwnT
              rw [List.length_append, List.map_append]
              exact hown7
            have HB7 : Hid (Below W0.heap.size W0 w7) := (HBJ.out.alloc hszj _).grown hg7 (by simp; omega) (fun k hk => (World.ownsRow.lt HOT.out k hk).1)
            have HT7 : Hid (ts ++ yt = txtOf (fs.take (j + 1)) nm) := by show _ = _; rw [HTK.out, HTS.out]
            clear hown7 hg7
            go_wp2_with fail
            go_roundg (D.length - (j + 1))
            case measure => omega
            case rel => exact ⟨j + 1, ts ++ yt, by go_num, by omega, by omega, HO7, HT7, HB7⟩
          · have hq := eq_false hnm
            rw [if_neg hnm, List.append_nil] at HTK
            have HT7 : Hid (ts = txtOf (fs.take (j + 1)) nm) := by show _ = _; rw [HTK.out, HTS.out]
            have HO7 : Hid (OwnT W0.heap.size (wr.alloc (.cells #[.string yn, .slice yp yt.length yc] 30)) u12 ts) := World.ownsRow.alloc HOT.out _
            have HB7 : Hid (Below W0.heap.size W0 (wr.alloc (.cells #[.string yn, .slice yp yt.length yc] 30))) := HBJ.out.alloc hszj _
            clear hnm
            go_wp2_with fail
            go_roundg (D.length - (j + 1))
            case measure => omega
            case rel => exact ⟨j + 1, ts, by go_num, by omega, by omega, HO7, HT7, HB7⟩
        · have hljz : ¬ (j : Int) < (D.length : Int) := by omega
          have hts : xt = ts := by
            have h1 := HTS.out
            have h2 : fs.take j = fs := List.take_of_length_le (by rw [← HFS.out, List.length_map]; omega)
            rw [h2] at h1
            rw [h1]; exact HGX.out
          have HTE := hid hts
          obtain ⟨pl, cl, rfl⟩ := own_slice HOT.out
          have q0 := HFF.out _ HBJ.out
          have HTT := hid (texts_any (.slice (some ⟨b, off, none⟩) d4.length cu) nm d4 wr (HIU.out.kept HBJ4.out) HF4.out HT16.out)
          rw [HTX.out] at HTT
          have htl : ts.length ≤ 140737488355328 := by
            have h1 := txtOf_len (fs.take j) nm
            have h3 := totF_take fs j
            have h4 := HTL.out
            rw [HTS.out]; omega
          have HLT := hid htl
          clear hts htl
          go_wp2_with (first
            | (go_at_call 10; refine HTT.out.mono ?_; rintro e w8 ⟨⟨v8, rfl, o8⟩, q8⟩; obtain ⟨p8, c8, rfl⟩ := own_slice o8; have HSM := hid (sameT_any p8 pl c8 cl xt ts w8 o8.txtAt (OwnT.on HOT.out q8).txtAt (by rw [HTE.out]; unfold maxLen; have := HLT.out; omega)); rw [show decide (xt = ts) = true from decide_eq_true HTE.out] at HSM; have B8 : Hid (Below w4.heap.size w4 w8) := hid (bel_then HBJ4.out HBJ4.out.size q8); clear o8 q8)
            | (go_at_call 9; refine HSM.out.mono ?_; rintro e w9 ⟨rfl, n9, rfl⟩))
          go_roundg (d4.length - (i + 1))
          case measure => omega
          case rel => exact ⟨i + 1, by go_num, by omega, by omega, bel_drewN B8.out n9⟩
      · have hltz : ¬ (i : Int) < (d4.length : Int) := by omega
        go_wp2_with fail
        go_meet
        case rel => exact bel_then Q4.out hw4 HBI.out
  case rest =>
    have HBX := hcut
    clear hcut
    have HX0 : Hid (Below w.heap.size w wc) := bel_then HB3.out hw3 HBX.out
    have HEQ := hid (equal_any _ _ da db wc (HV.out.kept HX0.out) (HU.out.kept HX0.out) HFA.out HFB.out)
    obtain ⟨B, hB⟩ : ∃ B, decide (da.map Fx.fld = db.map Fx.fld) = B := ⟨_, rfl⟩
    rw [hB] at HEQ
    have HB := hid hB
    have H16 : Hid (∀ x ∈ D, x.txt.length * 16 ≤ 140737488355328) := fun x hx => by
      have h1 := totF_mem (List.mem_map.2 ⟨x, hx, rfl⟩ : x.fld ∈ D.map Fx.fld)
      rw [HFS.out] at h1
      have h2 := HTL.out
      have e : x.fld.2.length = x.txt.length := rfl
      omega
    have hbb : (B == B) = true := by cases B <;> rfl
    have HTLN : Hid ((textsOf (D.map Fx.fld) ⟨#[97]⟩).length ≤ 140737488355328) := by
      show _ ≤ _
      unfold textsOf
      cases hfd : (D.map Fx.fld).find? fun f => decide (f.1 = ⟨#[97]⟩) with
      | none => simp
      | some f =>
        have h1 := totF_mem (List.mem_of_find?_eq_some hfd)
        rw [HFS.out] at h1
        have h2 := HTL.out
        simp
        omega
    clear hB
    go_wp2_with (first
      | (go_at_call 8; refine HEQ.out.mono ?_; rintro e w5 ⟨rfl, q5⟩; have B5 := hid (bel_then HX0.out HX0.out.size q5.below); have B35 := hid (bel_then HBX.out HBX.out.size q5.below); have HSF := hid (sameF_any _ _ da db w5 (HV.out.kept B5.out) (HU.out.kept B5.out) HFA.out HFB.out); rw [HB.out] at HSF)
      | (go_at_call 11; refine HSF.out.mono ?_; rintro e w6 ⟨rfl, n6, rfl⟩; have B6 := hid (bel_drewN B5.out n6); have B36 := hid (bel_drewN B35.out n6); have HTT := hid (texts_any _ ⟨#[97]⟩ D (w5.drewN n6) (HIS.out.kept B36.out) HFD.out H16.out))
      | (go_at_call 10; refine HTT.out.mono ?_; rintro e w7 ⟨⟨v7, rfl, o7⟩, q7⟩; have B37 := hid (bel_then B36.out B36.out.size q7); have B7 := hid (bel_then B6.out B6.out.size q7); have HRT := hid (rtexts_any _ ⟨#[97]⟩ D w7 (HIS.out.kept B37.out) HFD.out))
      | (go_at_call 12; refine HRT.out.mono ?_; rintro e w8 ⟨⟨p8, c8, rfl, t8⟩, rfl⟩; obtain ⟨p7, c7, rfl⟩ := own_slice o7; have HSM := hid (sameT_any p7 p8 c7 c8 _ _ w8 o7.txtAt t8 (by unfold maxLen; have := HTLN.out; omega)); rw [show ∀ l : List ByteArray, decide (l = l) = true from fun l => decide_eq_true rfl] at HSM; clear o7 t8)
      | (go_at_call 9; refine HSM.out.mono ?_; rintro e w9 ⟨rfl, n9, rfl⟩))
    go_ret
    exact ⟨rfl, bel_drewN B7.out n9⟩

end Go.Proofs.YtmjchokacmbkoabDoor
