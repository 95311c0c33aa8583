/-
  Texts of this claim, one behind the other: Bas Blk Ptm Por.
-/
import Derived.Test.YtfcjnoojcajljabGreatDoorRows
import Derived.Test.YtfcjnoojcajljabGreatDoorPb
import Derived.Test.YtfcjnoojcajljabGreatDoorPa
import Derived.MakeChecks
import Derived.ProofKit
import Derived.OpenShut
import Derived.Lay
import Derived.Stop.Joined
import Derived.SliceStrings
import Derived.Deep.SlicePairs
import Derived.Lib.LaidU8
import Derived.SizedLaws
import Derived.ChangeSlices
import Derived.Deep.DeepHandedRow
import Derived.Test.YtfcjnoojcajljabGreatDoorPd
import Derived.Deep.CutRange
import Derived.Deep.AppendLies
import Derived.BigQuiet
/-
  What each row's proof opens its arguments by, and what the laid variables give.
-/
namespace Go.Proofs.YtfcjnoojcajljabGreatDoor
open Go.ChangeShapes Go.WideShapes Go.ChangeAt Go.RowKit Go.Lib Go.Deep

theorem Tryz.own : ownKnob Tryz.prog.godebug = none := by kernel_rfl
theorem Tryz.laidOut : laidOutB Tryz.prog = true := by kernel_rfl
theorem Tryz.cellsFld : Tryz.prog.cellsOf 34 = 2 := by kernel_rfl
theorem Tryz.cellsStr : Tryz.prog.cellsOf 9 = 1 := by kernel_rfl
theorem Tryz.cellsStrs : Tryz.prog.cellsOf 32 = 1 := by kernel_rfl
theorem Tryz.cellsByte : Tryz.prog.cellsOf 5 = 1 := by kernel_rfl

/-- What the rows list. -/
def seatLaid : List (String × DataW Unit) := [("unicode/utf8.acceptRanges", Rows.laid_unicode_utf8_acceptRanges), ("folio/value.plain", Rows.laid_folio_value_plain), ("unicode/utf8.first", Rows.laid_unicode_utf8_first)]

theorem gPlain : Tryz.prog.globalNamed "folio/value.plain" = some 1 := by kernel_rfl
theorem tPlain : (Tryz.prog.globals[1]?).map (·.type) = some 123 := by kernel_rfl
theorem uPair : Tryz.prog.underlying 122 = some (.array 2 5) := by kernel_rfl
theorem cPair : Tryz.prog.cellsOf 122 = 2 := by kernel_rfl
theorem cPlain : Tryz.prog.cellsOf 123 = 26 := by kernel_rfl

def plainLits : List (Int × Int) := [(97, 122), (65, 90), (48, 57), (45, 45), (46, 46), (95, 95), (124, 124), (42, 42), (64, 64), (47, 47), (58, 58), (43, 43), (44, 44)]

theorem plain_data : (Rows.laid_folio_value_plain : DataW Unit) = .agg (plainLits.map fun p => .agg [.lit (.int .u8 p.1), .lit (.int .u8 p.2)]) := rfl

theorem one_byte_read {W : World} {f : Nat} {cs : List Value} {k : Int} {q : List MemPlace} (h : DataW.trod (fun _ => ()) Tryz.prog W 0 (fun _ => true) false f 5 cs = some (.lit (.int .u8 k), q)) : cs = [.int .u8 k] := by
  obtain ⟨n, rfl, e, _⟩ := DataW.trod_int Tryz.underlying5 h
  cases e
  rfl

theorem pair_cells {W : World} {f : Nat} {cs : List Value} {a b : Int} {q : List MemPlace} (hl : cs.length = 2) (h : DataW.trod (fun _ => ()) Tryz.prog W 0 (fun _ => true) false f 122 cs = some (.agg [.lit (.int .u8 a), .lit (.int .u8 b)], q)) : cs = [.int .u8 a, .int .u8 b] := by
  match cs, hl with
  | [x, y], _ =>
    obtain ⟨f0, d0, q0, e0, h0⟩ := array_elem uPair h 0 (by decide)
    obtain ⟨f1, d1, q1, e1, h1⟩ := array_elem uPair h 1 (by decide)
    rw [Tryz.cellsByte] at h0 h1
    simp only [List.getElem?_cons_zero, List.getElem?_cons_succ, Option.some.injEq] at e0 e1
    subst e0 e1
    have k0 := one_byte_read h0
    have k1 := one_byte_read h1
    simp at k0 k1
    rw [k0, k1]

theorem list_pairs : ∀ (n : Nat) (cs : List Value) (ps : List (Int × Int)), cs.length = n * 2 → ps.length = n → (∀ i (h : i < ps.length), (cs.drop (i * 2)).take 2 = [.int .u8 ps[i].1, .int .u8 ps[i].2]) → cs = ps.flatMap fun p => [.int .u8 p.1, .int .u8 p.2]
  | 0, cs, ps, hc, hp, _ => by
    rw [List.length_eq_zero_iff.1 (by omega : cs.length = 0), List.length_eq_zero_iff.1 hp]
    rfl
  | n + 1, cs, ps, hc, hp, h => by
    match ps, hp, cs, hc with
    | _ :: _, _, [], hc => simp at hc
    | _ :: _, _, [_], hc => simp at hc; omega
    | p :: ps, hp, x :: y :: cs, hc =>
      have h0 := h 0 (by simp)
      simp at h0
      have := list_pairs n cs ps (by simp at hc; omega) (by simpa using hp) (fun i hi => by
        have := h (i + 1) (by simp; omega)
        rw [show (i + 1) * 2 = i * 2 + 1 + 1 by omega] at this
        simpa using this)
      rw [List.flatMap_cons, ← this, h0.1, h0.2]
      rfl

theorem plain_of_laid {W : World} (h : laidMetH Tryz.prog seatLaid W) : PlainAt W := by
  rw [MakeChecks.laidMetH_plain _ _ _ (by kernel_rfl)] at h
  obtain ⟨g, t, cs, fuel, p, hg, ht, hv, hd⟩ := laidMet.reads h (n := "folio/value.plain") (d := Rows.laid_folio_value_plain) (.tail _ (.head _))
  obtain rfl := Option.some.inj (gPlain.symm.trans hg)
  obtain rfl := Option.some.inj (tPlain.symm.trans ht)
  rw [plain_data] at hd
  obtain ⟨_, _, _, _, hlen, _, _⟩ := DataW.trod_array Tryz.underlying123 hd
  rw [cPlain] at hlen
  have hcs := list_pairs 13 cs.toList plainLits (by simpa using hlen) rfl (fun i hi => by
    have hi13 : i < 13 := hi
    obtain ⟨f, d, q, e, hx⟩ := array_elem Tryz.underlying123 hd i hi13
    rw [cPair] at hx
    rw [List.getElem?_map, List.getElem?_eq_getElem hi] at e
    simp only [Option.map_some, Option.some.injEq] at e
    subst e
    exact pair_cells (by rw [List.length_take, List.length_drop]; rw [hlen]; omega) hx)
  have hv' : W.var? Tryz.prog "folio/value.plain" = some cs := hv
  simp only [World.var?, hg, Option.bind_some] at hv'
  split at hv'
  · rename_i c t' fr hh
    cases hv'
    refine ⟨t', fr, ?_⟩
    rw [hh]
    have : cs = plainCells := Array.toList_inj.1 (by rw [hcs]; rfl)
    rw [this]
  · cases hv'

/-- A slice of texts that came in. -/
theorem open_txt {H : Type} {enc : TypeId × Value → H} {W : World} {f : Nat} {v : Value} {x : DataW H × List MemPlace} (h : DataW.trod enc Tryz.prog W 0 (fun _ => true) true f 32 [v] = some x) :
    ∃ p cap, ∃ ts : List ByteArray, v = .slice p ts.length cap ∧ TxtAt W p ts ∧ FitT ts := by
  rcases open_strings Tryz.underlying32 Tryz.underlying9 Tryz.cellsStr h with ⟨hcs, _⟩ | ⟨a, l, c, ss, hcs, _, hl, hm, hz, _, hcell, hws⟩
  · simp at hcs
    exact ⟨none, 0, [], hcs, Or.inl rfl, by unfold maxLen; simp, fun t ht => by simp at ht⟩
  · simp at hcs
    have hz' : ss.length = c := by simpa using hz
    have hlen : (ss.take l).length = l := by rw [List.length_take]; omega
    refine ⟨some a, c, ss.take l, by rw [hlen]; exact hcs, ?_, by omega, fun t ht => hws t (List.mem_of_mem_take ht)⟩
    by_cases h0 : l = 0
    · subst h0; exact Or.inl rfl
    · right
      have hc0 := hcell 0 (by omega)
      obtain ⟨b, off, spot⟩ := a
      have hspot : spot = none := by simpa [Addr.add] using World.cell?_spot hc0
      subst hspot
      refine ⟨b, off, rfl, fun i hi => ?_⟩
      rw [hlen] at hi
      have := hcell i (by omega)
      rw [addr_add] at this
      rw [this, List.getElem_take, List.getD_eq_getElem?_getD, List.getElem?_eq_getElem (by omega)]
      rfl

set_option maxRecDepth 100000 in
/-- A slice of fields that came in. -/
theorem open_fields {H : Type} {enc : TypeId × Value → H} {W : World} {b0 : Nat} {v : Value} {dd : DataW H} {p : List MemPlace}
    (hv : Value.okWide Tryz.prog W .any b0 35 v) (h : DataW.Trod enc Tryz.prog W 0 (fun _ => true) true 35 v dd p) : ∃ d : List Fx, IsXs W v d ∧ FitX d := by
  obtain ⟨a0, len, cap, rfl⟩ := okWide_slice Tryz.underlying35 hv
  obtain ⟨fuel, hf⟩ := h
  rcases open_slice_pairs Tryz.underlying35 Tryz.underlying34 Tryz.cellsFld rfl rfl Tryz.cellsStr Tryz.cellsStrs hf with ⟨hcs, _⟩ | ⟨a, l, c, m, n, V0, V1, D0, D1, P0, P1, hcs, _, hl, hm, hmm, hdat, hall⟩
  · simp [Value.cells] at hcs
    obtain ⟨rfl, rfl, rfl⟩ := hcs
    exact ⟨[], ⟨none, 0, rfl, Or.inl rfl, fun x hx => by simp at hx⟩, by unfold maxLen; simp, fun x hx => by simp at hx⟩
  · simp [Value.cells] at hcs
    obtain ⟨rfl, rfl, rfl⟩ := hcs
    have hm' : m = cap := by simpa using hmm
    subst hm'
    have each : ∀ i, i < m → ∃ x : Fx, V0 i = .string x.name ∧ V1 i = x.sl ∧ TxtAt W x.p x.txt ∧ FitF x.fld := by
      intro i hi
      obtain ⟨_, _, h3, h4⟩ := hall i hi
      obtain ⟨s, e0, _, hs⟩ := DataW.trod_string Tryz.underlying9 h3
      simp only [List.cons.injEq, and_true] at e0
      obtain ⟨q, cc, ts, e1, ht, hft⟩ := open_txt h4
      exact ⟨⟨s, q, cc, ts⟩, e0, e1, ht, hs, hft⟩
    by_cases h0 : len = 0
    · subst h0
      exact ⟨[], ⟨_, _, rfl, Or.inl rfl, fun x hx => by simp at hx⟩, by unfold maxLen; simp, fun x hx => by simp at hx⟩
    · have hc0 := (hall 0 (by omega)).1
      obtain ⟨b, off, spot⟩ := a
      have hspot : spot = none := by simpa [Addr.add] using World.cell?_spot hc0
      subst hspot
      let f : Nat → Fx := fun i => if h : i < m then (each i h).choose else default
      have fs : ∀ i (h : i < m), V0 i = .string (f i).name ∧ V1 i = (f i).sl ∧ TxtAt W (f i).p (f i).txt ∧ FitF (f i).fld := fun i h => by
        have e : f i = (each i h).choose := dif_pos h
        rw [e]
        exact (each i h).choose_spec
      have hlen : ((List.range len).map f).length = len := by simp
      refine ⟨(List.range len).map f, ⟨_, m, by rw [hlen], Or.inr ⟨b, off, rfl, fun i hi => ?_⟩, fun x hx => ?_⟩, by rw [hlen]; omega, fun x hx => ?_⟩
      · have hi0 : i < len := by simpa using hi
        obtain ⟨h1, h2, _, _⟩ := hall i (by omega)
        obtain ⟨g1, g2, _⟩ := fs i (by omega)
        rw [addr_add] at h1 h2
        have ef : ((List.range len).map f)[i]'hi = f i := by simp
        rw [ef, h1, ← g1]
        refine ⟨rfl, ?_⟩
        rw [Nat.add_assoc, h2, g2]
      · obtain ⟨i, hi, rfl⟩ := List.mem_map.1 hx
        exact (fs i (by have := List.mem_range.1 hi; omega)).2.2.1
      · obtain ⟨i, hi, rfl⟩ := List.mem_map.1 hx
        exact (fs i (by have := List.mem_range.1 hi; omega)).2.2.2

set_option maxRecDepth 100000 in
/-- A slice of bytes that came in. -/
theorem open_bytes {H : Type} {enc : TypeId × Value → H} {W : World} {b0 : Nat} {v : Value} {dd : DataW H} {p : List MemPlace}
    (hv : Value.okWide Tryz.prog W .any b0 69 v) (h : DataW.Trod enc Tryz.prog W 0 (fun _ => true) true 69 v dd p) : ∃ l : List UInt8, RestAt W.heap.size W v l := by
  obtain ⟨a0, len, cap, rfl⟩ := okWide_slice Tryz.underlying69 hv
  obtain ⟨fuel, hf⟩ := h
  rcases open_ints Tryz.underlying69 Tryz.underlying5 Tryz.cellsByte hf with ⟨hcs, _⟩ | ⟨a, l, c, zs, hcs, _, hl, hm, hz, _, hcell, hws⟩
  · simp [Value.cells] at hcs
    obtain ⟨rfl, rfl, rfl⟩ := hcs
    exact ⟨[], none, 0, rfl, by simp, by unfold maxLen; omega, Or.inl rfl⟩
  · simp [Value.cells] at hcs
    obtain ⟨rfl, rfl, rfl⟩ := hcs
    have hz' : zs.length = cap := by simpa using hz
    have hlen : ((zs.take len).map fun z => UInt8.ofNat z.toNat).length = len := by rw [List.length_map, List.length_take]; omega
    refine ⟨(zs.take len).map fun z => UInt8.ofNat z.toNat, some a, cap, by rw [hlen], by rw [hlen]; exact hl, hm, ?_⟩
    by_cases h0 : len = 0
    · subst h0; exact Or.inl (by simp)
    · right
      have hc0 := hcell 0 (by omega)
      obtain ⟨b, off, spot⟩ := a
      have hspot : spot = none := by simpa [Addr.add] using World.cell?_spot hc0
      subst hspot
      refine ⟨b, off, rfl, ?_, fun i hi => ?_⟩
      · have := cell_block hc0
        simpa [Addr.add] using this
      · rw [hlen] at hi
        have := hcell i (by omega)
        rw [addr_add, List.getD_eq_getElem?_getD, List.getElem?_eq_getElem (by omega)] at this
        rw [this]
        have hw := hws _ (List.getElem_mem (show i < zs.length by omega))
        have hb : 0 ≤ zs[i] ∧ zs[i] ≤ 255 := by simpa [Lit.wf, IntKind.min, IntKind.max, IntKind.signed, IntKind.bits] using hw
        simp
        omega

end Go.Proofs.YtfcjnoojcajljabGreatDoor

/-
  What the bound of a second form gives: how great an argument can be.
-/
namespace Go.Proofs.YtfcjnoojcajljabGreatDoor
open Go.ChangeShapes Go.WideShapes Go.ChangeAt Go.RowKit Go.Lib Go.Deep

theorem bulk_pos {H : Type} (d : DataW H) : 1 ≤ Rows.uptoBulk d := by
  cases d with
  | lit l => cases l <;> simp [Rows.uptoBulk]
  | nil => simp [Rows.uptoBulk]
  | ptr d => simp [Rows.uptoBulk]
  | slice elems spare => simp [Rows.uptoBulk]
  | agg parts => simp [Rows.uptoBulk]
  | iface t d => simp [Rows.uptoBulk]
  | map entries => simp [Rows.uptoBulk]
  | held h => simp [Rows.uptoBulk]

theorem bulk_sum {H : Type} (l : List (DataW H)) : Rows.uptoBulkAll l = (l.map Rows.uptoBulk).sum := by
  induction l with
  | nil => simp [Rows.uptoBulkAll]
  | cons x r ih => simp [Rows.uptoBulkAll, ih]

theorem bulk_mem {H : Type} {d : DataW H} {l : List (DataW H)} (h : d ∈ l) : Rows.uptoBulk d ≤ Rows.uptoBulkAll l := by
  induction l with
  | nil => cases h
  | cons x r ih =>
    simp only [Rows.uptoBulkAll]
    rcases List.mem_cons.1 h with rfl | h
    · omega
    · have := ih h; omega

theorem bulk_len {H : Type} (l : List (DataW H)) : l.length ≤ Rows.uptoBulkAll l := by
  induction l with
  | nil => simp [Rows.uptoBulkAll]
  | cons x r ih => have := bulk_pos x; simp only [Rows.uptoBulkAll, List.length_cons]; omega

theorem bulk_small {H : Type} {l : List (DataW H)} (hk : Rows.uptoSmall H l = true) : Rows.uptoBulkAll l ≤ 1048576 := of_decide_eq_true hk

/-- A slice of texts that came in, and its bulk. -/
theorem open_txtU {H : Type} {enc : TypeId × Value → H} {W : World} {f : Nat} {v : Value} {x : DataW H × List MemPlace} (h : DataW.trod enc Tryz.prog W 0 (fun _ => true) true f 32 [v] = some x) :
    ∃ p cap, ∃ ts : List ByteArray, v = .slice p ts.length cap ∧ TxtAt W p ts ∧ FitT ts ∧ ts.length + 1 ≤ Rows.uptoBulk x.1 ∧ ∀ t ∈ ts, t.size ≤ Rows.uptoBulk x.1 := by
  rcases open_strings Tryz.underlying32 Tryz.underlying9 Tryz.cellsStr h with ⟨hcs, hx⟩ | ⟨a, l, c, ss, hcs, _, hl, hm, hz, hx, hcell, hws⟩
  · simp at hcs
    exact ⟨none, 0, [], hcs, Or.inl rfl, ⟨by unfold maxLen; simp, fun t ht => by simp at ht⟩, by rw [hx]; simp [Rows.uptoBulk], fun t ht => by simp at ht⟩
  · simp at hcs
    have hz' : ss.length = c := by simpa using hz
    have hlen : (ss.take l).length = l := by rw [List.length_take]; omega
    have hb1 := bulk_len (strs (ss.take l) : List (DataW H))
    have hb2 : (strs (ss.take l) : List (DataW H)).length = l := by rw [show (strs (ss.take l) : List (DataW H)).length = (ss.take l).length by simp [strs], hlen]
    refine ⟨some a, c, ss.take l, by rw [hlen]; exact hcs, ?_, ⟨by omega, fun t ht => hws t (List.mem_of_mem_take ht)⟩, ?_, fun t ht => ?_⟩
    · by_cases h0 : l = 0
      · subst h0; exact Or.inl rfl
      · right
        have hc0 := hcell 0 (by omega)
        obtain ⟨b, off, spot⟩ := a
        have hspot : spot = none := by simpa [Addr.add] using World.cell?_spot hc0
        subst hspot
        refine ⟨b, off, rfl, fun i hi => ?_⟩
        rw [hlen] at hi
        have := hcell i (by omega)
        rw [addr_add] at this
        rw [this, List.getElem_take, List.getD_eq_getElem?_getD, List.getElem?_eq_getElem (by omega)]
        rfl
    · rw [hx, hlen]
      simp only [Rows.uptoBulk]
      omega
    · rw [hx]
      simp only [Rows.uptoBulk]
      have hm' : (DataW.lit (.string t.data.toList) : DataW H) ∈ strs (ss.take l) := by
        unfold strs
        exact List.mem_map.2 ⟨t, ht, rfl⟩
      have := bulk_mem hm'
      simp only [Rows.uptoBulk] at this
      have e : t.data.toList.length = t.size := by simp
      omega

end Go.Proofs.YtfcjnoojcajljabGreatDoor

/-
  A slice of terms that came in, and its bulk.
-/
namespace Go.Proofs.YtfcjnoojcajljabGreatDoor
open Go.ChangeShapes Go.WideShapes Go.ChangeAt Go.RowKit Go.Lib Go.Deep

theorem Tryz.cellsTm : Tryz.prog.cellsOf 30 = 3 := by kernel_rfl
theorem Tryz.cellsNum : Tryz.prog.cellsOf 3 = 1 := by kernel_rfl

set_option maxRecDepth 100000 in
/-- One term, from its three cells. -/
theorem open_term {H : Type} {enc : TypeId × Value → H} {W : World} {n : Nat} {cs : List Value} {x : DataW H × List MemPlace} (h : DataW.trod enc Tryz.prog W 0 (fun _ => true) true n 30 cs = some x) :
    ∃ t : Tm, cs = encM t ∧ t.1.size ≤ maxLen ∧ t.2.2.size ≤ maxLen ∧ -9223372036854775808 ≤ t.2.1 ∧ t.2.1 ≤ 9223372036854775807 := by
  obtain ⟨xs, k, _, _, hlen, hxl, hf⟩ := DataW.trod_struct Tryz.underlying30 h
  rw [Tryz.cellsTm] at hlen
  match cs, hlen with
  | [v0, v1, v2], _ =>
    match xs, hxl with
    | [y0, y1, y2], _ =>
      have g0 := hf 0 _ rfl
      have g1 := hf 1 _ rfl
      have g2 := hf 2 _ rfl
      simp [Tryz.cellsStr, Tryz.cellsNum] at g0 g1 g2
      obtain ⟨a, ea, _, ha⟩ := DataW.trod_string Tryz.underlying9 g0
      obtain ⟨o, eo, _, ho⟩ := DataW.trod_int Tryz.underlying3 g1
      obtain ⟨b, eb, _, hb⟩ := DataW.trod_string Tryz.underlying9 g2
      simp only [List.cons.injEq, and_true] at ea eo eb
      have hw : -9223372036854775808 ≤ o ∧ o ≤ 9223372036854775807 := by
        have := ho
        simp [Lit.wf, IntKind.min, IntKind.max, IntKind.signed, IntKind.bits] at this
        omega
      exact ⟨(a, o, b), by rw [ea, eo, eb]; rfl, ha, hb, hw.1, hw.2⟩

set_option maxRecDepth 100000 in
theorem open_terms {H : Type} {enc : TypeId × Value → H} {W : World} {b0 : Nat} {v : Value} {dd : DataW H} {p : List MemPlace}
    (hv : Value.okWide Tryz.prog W .any b0 22 v) (h : DataW.Trod enc Tryz.prog W 0 (fun _ => true) true 22 v dd p) :
    ∃ q : List Tm, KM.Is W v q ∧ FitM q ∧ q.length ≤ Rows.uptoBulk dd ∧ (q = [] ∨ ∃ es sp, dd = .slice es sp ∧ es.length = q.length) := by
  obtain ⟨a0, len, cap, rfl⟩ := okWide_slice Tryz.underlying22 hv
  obtain ⟨fuel, hf⟩ := h
  rcases open_slice Tryz.underlying22 hf with ⟨hcs, _⟩ | ⟨a, l, c, m, n, D, Pl, hcs, _, hl, hm, hmm, hdat, hall⟩
  · simp [Value.cells] at hcs
    obtain ⟨rfl, rfl, rfl⟩ := hcs
    exact ⟨[], KM.is_nil W, ⟨by unfold maxLen; simp, fun x hx => by simp at hx⟩, Nat.zero_le _, Or.inl rfl⟩
  · simp [Value.cells] at hcs
    obtain ⟨rfl, rfl, rfl⟩ := hcs
    have hm' : m = cap := by simpa using hmm
    subst hm'
    rw [Tryz.cellsTm] at hall
    have hdd : dd = .slice ((List.range len).map D) ((List.range (m - len)).map fun j => D (len + j)) := congrArg Prod.fst hdat
    have hbk : len ≤ Rows.uptoBulk dd := by
      rw [hdd]
      simp only [Rows.uptoBulk]
      have := bulk_len ((List.range len).map D)
      simp only [List.length_map, List.length_range] at this
      omega
    have each : ∀ i, i < m → ∃ t : Tm, (∀ j u, (encM t)[j]? = some u → W.cell? (a.add (i * 3 + j)) = some u) ∧ t.1.size ≤ maxLen ∧ t.2.2.size ≤ maxLen ∧ -9223372036854775808 ≤ t.2.1 ∧ t.2.1 ≤ 9223372036854775807 := by
      intro i hi
      obtain ⟨cs', h1, h2⟩ := hall i hi
      obtain ⟨_, hlen, hcell⟩ := World.cells?_some h1
      obtain ⟨t, rfl, ht⟩ := open_term h2
      refine ⟨t, fun j u hu => ?_, ht⟩
      have hj : j < 3 := by
        have := (List.getElem?_eq_some_iff.1 hu).1
        exact this
      have := hcell j hj
      rw [add_add] at this
      rw [this]; exact hu
    by_cases h0 : len = 0
    · subst h0
      exact ⟨[], ⟨_, _, rfl, Or.inl rfl⟩, ⟨by unfold maxLen; simp, fun x hx => by simp at hx⟩, Nat.zero_le _, Or.inl rfl⟩
    · obtain ⟨f, hff⟩ := choose_lt each
      have hc0 := (hff 0 (by omega)).1 0 _ rfl
      obtain ⟨b, off, spot⟩ := a
      have hspot : spot = none := by simpa [Addr.add] using World.cell?_spot hc0
      subst hspot
      have hlen : ((List.range len).map f).length = len := by simp
      refine ⟨(List.range len).map f, ⟨_, m, by rw [hlen], Or.inr ⟨b, off, rfl, fun i hi j u hu => ?_⟩⟩, ⟨by rw [hlen]; omega, fun x hx => ?_⟩, by rw [hlen]; exact hbk, Or.inr ⟨_, _, hdd, by simp⟩⟩
      · have hi0 : i < len := by simpa using hi
        have ef : ((List.range len).map f)[i]'hi = f i := by simp
        rw [ef] at hu
        have := (hff i (by omega)).1 j u hu
        rw [addr_add] at this
        rw [Nat.add_assoc]
        exact this
      · obtain ⟨i, hi, rfl⟩ := List.mem_map.1 hx
        exact (hff i (by have := List.mem_range.1 hi; omega)).2

end Go.Proofs.YtfcjnoojcajljabGreatDoor

/-
  The walk of PredOrders.
-/
namespace Go.Proofs.YtfcjnoojcajljabGreatDoor
open Go.RowKit Go.Lib

/-- An append of a row that came in, whatever its length, at a step of a region that draws its order. -/
theorem step_append_rows {ops : Array Oper} {o : Oper} {a : Act} {K : Act → World → Prop} {Q : Exit → Act → World → Prop} {E : Prop} (w : World) (hgd : o.guard = none) (s x : Operand) (t : TypeId)
    (ho : o.op = .call { callee := .builtin .append, args := #[s, x], argTypes := #[t, t] })
    (base : Nat) (e : TypeId) (i : TypeInfo) (z : Value) (size bytes : Nat) (ht : Tryz.prog.underlying t = some (.slice e)) (hi : Tryz.prog.info? e = some i) (hz : i.zero = some z)
    (hsize : i.size = size) (hby : i.bytes = bytes) (hzs : z.cells.size = size) (hsz : 0 < size)
    (v : Value) (n : Nat) (xs : List Value) (hs : a.eval s = v) (hown : w.ownsRow base e size v n xs)
    (p : Option Addr) (m c : Nat) (news : List Value) (hx : a.eval x = .slice p m c) (hl : news.length = m * size)
    (hsrc : m = 0 ∨ ∃ ad, p = some ad ∧ ∀ j u, news[j]? = some u → w.cell? (ad.add j) = some u) (h1 : ∀ u ∈ news, u.oneCell' = true)
    (h63 : n + m ≤ maxLen) (hbytes : (n + m) * bytes ≤ 140737488355328) (hbase : base ≤ w.heap.size)
    (h : ∀ v' w', w'.ownsRow base e size v' (n + m) (xs ++ news) → w.grownBy w' v.ownBlock → K (a.put o.dst v') w') :
    if Region.wanted o (yielded ops a.tmps) = true then Oper.wp Tryz.prog o a w K Q else E := by
  by_cases hm : m = 0
  · have hw : Region.wanted o (yielded ops a.tmps) = true := by simp [Region.wanted, hgd]
    rw [if_pos hw]
    subst hm
    have hn : news = [] := List.length_eq_zero_iff.1 (by simpa using hl)
    subst hn
    obtain ⟨q, cap, hv, hcap, hq⟩ : ∃ q cap, v = .slice q n cap ∧ n ≤ cap ∧ (q = none → n = 0 ∧ cap = 0) := by
      rcases hown.2 with ⟨hv, h0⟩ | ⟨g, cap, cur, hv, _, _, hc, _⟩
      · exact ⟨none, 0, by rw [hv, h0], by omega, fun _ => ⟨h0, rfl⟩⟩
      · exact ⟨_, cap, hv, hc, fun h => by cases h⟩
    have hrun : (Builtin.append_ #[t, t] o.type #[.slice q n cap, .slice p 0 c]).run Tryz.prog w = .ok (.slice q n cap) w := by
      cases q with
      | none =>
        obtain ⟨rfl, rfl⟩ := hq rfl
        cases p <;> simp [Builtin.append_, run_underlying ht, Builtin.lenOf, Builtin.firstCells, sizeOf, typeInfo, hi, loadCells, loadCellsFrom]
      | some q =>
        cases p <;> simp [Builtin.append_, run_underlying ht, Builtin.lenOf, Builtin.firstCells, sizeOf, typeInfo, hi, storeCells, loadCells, loadCellsFrom, hcap]
    rw [hv] at hs
    unfold Oper.wp
    simp [execOp, ho, resolve, invoke, builtin, hs, hx, hrun, Result.andThen]
    refine h _ _ ?_ (grownBy_refl _ _)
    rw [← hv, List.append_nil]
    exact hown
  · rcases hsrc with h0 | ⟨ad, rfl, hc⟩
    · exact absurd h0 hm
    · exact step_append_lies w hgd s x t ho base e i z size bytes ht hi hz hsize hby hzs hsz v n xs hs hown ad m c news hx hl hc h1 (by omega) h63 hbytes hbase _ rfl (fun g cap w' h2 h3 _ _ => h _ w' h2 h3)

theorem at_drop {w : World} {b off : Nat} {p : List Tm} (m : Nat) (h : KM.At w b off p) : KM.At w b (off + m * 3) (p.drop m) := fun i hi j u hu => by
  rw [List.length_drop] at hi
  have hu' : (KM.enc (p[m + i]'(by omega)))[j]? = some u := by rw [List.getElem_drop] at hu; exact hu
  have := h (m + i) (by omega) j u hu'
  have e : off + (m + i) * KM.k + j = off + m * 3 + i * KM.k + j := by rw [Nat.add_mul]; show off + (m * 3 + i * 3) + j = _; show _ = off + m * 3 + i * 3 + j; omega
  rwa [e] at this

theorem at_take {w : World} {b off : Nat} {p : List Tm} (m : Nat) (h : KM.At w b off p) : KM.At w b off (p.take m) := fun i hi j u hu => by
  rw [List.length_take] at hi
  rw [List.getElem_take] at hu
  exact h i (by omega) j u hu

theorem own_madeO {N : Nat} (w : World) (h : N ≤ w.heap.size) : KM.Own N (w.alloc (.cells #[] 30)) (.slice (some ⟨w.heap.size, 0, none⟩) 0 0) [] :=
  World.ownsRow_lit w #[] 0 h (by decide) rfl

theorem turn_at (tt : Int) (n : Nat) (h0 : n ≠ 0) (h1 : n ≤ 2000000) : ∃ m : Nat, m < n ∧ wrap64 ((IntKind.u64.wrap tt).tmod (n : Int)) = (m : Int) := by
  have hU : 0 ≤ IntKind.u64.wrap tt := by simp [IntKind.wrap, IntKind.signed, IntKind.bits]; omega
  generalize IntKind.u64.wrap tt = U at hU
  rw [Int.tmod_eq_emod_of_nonneg hU]
  have h2 := Int.emod_nonneg U (show (n : Int) ≠ 0 by omega)
  have h3 := Int.emod_lt_of_pos U (show (0 : Int) < n by omega)
  generalize U % (n : Int) = x at h2 h3
  refine ⟨x.toNat, by omega, ?_⟩
  have e : ((x.toNat : Nat) : Int) = x := by omega
  rw [e]
  simp [wrap64]
  omega

theorem own_farO {N : Nat} {r : Option Nat} {w w' : World} {v : Value} {d : List Tm} (h : KM.Own N w v d) (hg : w.grownBy w' r) (hr : ∀ k, r = some k → k < N) : KM.Own N w' v d :=
  own_same h fun k hk => hg.block k (World.ownsRow.lt h k hk).2 (fun e => by have h1 := (World.ownsRow.lt h k hk).1; have h2 := hr k e.symm; omega)

set_option maxHeartbeats 16000000 in
set_option maxRecDepth 100000 in
theorem porders_any (pa : Option Addr) (ca : Nat) (tt : Int) (p : List Tm) (w : World) (hp : PlainAt w) (hv : KM.Is w (.slice pa p.length ca) p) (hc : p.length ≤ ca) (hfp : FitM p) (hl : p.length ≤ 2000000) :
    Calls Tryz.prog 3 #[.slice pa p.length ca, .int .i64 tt] w fun e w' => e = .returned (.bool true) ∧ Below w.heap.size w w' := by
  obtain ⟨j0, hj0, hy0, hy1, hy2⟩ := info_parts Tryz.infoTrm
  have HJ := hid hj0
  have HP := hid hp
  have HV := hid hv
  have HFP := hid hfp
  clear hj0 hp hv hfp
  go_enter Tryz.func3, Tryz.ntmps3
  by_cases hn : p.length = 0
  · have hz : ((p.length : Int) == 0) = true := by rw [hn]; rfl
    have hz' : (p.length : Int) = 0 := by omega
    go_wp2_with fail
    refine (said.fixed _ HP.out).mono ?_
    rintro e w1 ⟨rfl, q1⟩
    go_wp2_with fail
    go_ret
    exact ⟨rfl, q1⟩
  · have hz : ((p.length : Int) == 0) = false := by simpa using hn
    have hz' : ¬ (p.length : Int) = 0 := by omega
    go_wp2_with fail
    refine (said.fixed _ HP.out).mono ?_
    rintro e w1 ⟨rfl, q1⟩
    obtain ⟨m, hm, hmt⟩ := turn_at tt p.length hn (by omega)
    obtain ⟨b, off, rfl, hat⟩ : ∃ b off, pa = some ⟨b, off, none⟩ ∧ KM.At w b off p := by
      obtain ⟨x, y, h1, h2⟩ := HV.out
      cases h1
      rcases h2 with h | h
      · rw [h] at hn; exact absurd rfl hn
      · exact h
    have HAT := hid hat
    have HMT := hid hmt
    clear hat hmt
    have hm1 : (0 : Int) ≤ (m : Int) := by omega
    have hm2 : (m : Int) ≤ (p.length : Int) := by omega
    have hm3 : (m : Int) ≤ (ca : Int) := by omega
    have hm4 : (p.length : Int) ≤ (ca : Int) := by omega
    have hm5 : ¬ ca = m := by omega
    go_upto_region 6 with fail
    rw [HMT.out]
    have hw1 := q1.size
    have HB1 : Hid (Below w.heap.size w (w1.alloc (.cells #[] 30)).drew) := (q1.alloc hw1 _).drew
    have HN0 : Hid (KM.Own w.heap.size (w1.alloc (.cells #[] 30)).drew (.slice (some ⟨w1.heap.size, 0, none⟩) 0 0) []) := own_madeO w1 hw1
    have KSA : Hid (∀ W, Below w.heap.size w W → p.length - m = 0 ∨ ∃ ad, some (⟨b, off + m * 3, none⟩ : Addr) = some ad ∧ ∀ j u, (KM.cells (p.drop m))[j]? = some u → W.cell? (ad.add j) = some u) := fun W hW => by
      rw [← List.length_drop]
      exact Kind.src (Or.inr ⟨_, _, rfl, at_drop m (Kind.at_kept HAT.out hW)⟩)
    have KSB : Hid (∀ W, Below w.heap.size w W → m = 0 ∨ ∃ ad, some (⟨b, off, none⟩ : Addr) = some ad ∧ ∀ j u, (KM.cells (p.take m))[j]? = some u → W.cell? (ad.add j) = some u) := fun W hW => by
      have := Kind.src (K := KM) (Or.inr ⟨_, _, rfl, at_take m (Kind.at_kept HAT.out hW)⟩)
      rw [List.length_take, Nat.min_eq_left (by omega)] at this
      exact this
    unfold Kind.Own at HN0
    go_region_held3 (fun _ => True) (trivial)
      (first
        | (refine step_append_rows _ (by rfl) (.tmp 26) (.tmp 29) 22 (by rfl) w.heap.size 30 j0 (.agg #[.string ⟨#[]⟩, .int .i64 0, .string ⟨#[]⟩]) 3 40 Tryz.underlying22 HJ.out hy0 hy1 hy2 rfl (by decide) _ _ _ (by rfl) HN0.out _ (p.length - m) _ (KM.cells (p.drop m)) (by rfl) (by rw [KM.cells_len, List.length_drop]; rfl) (KSA.out _ HB1.out) (KM.cells_ones _) (by unfold maxLen; simp; omega) (by simp; omega) (HB1.out.size) ?_; intro v2 w2 hown2 hg2; have hb2 : Below w.heap.size w w2 := HB1.out.grown hg2 HB1.out.size (fun k hk => (World.ownsRow.lt HN0.out k hk).1); have hw2 := hb2.size; have HO2 := hid hown2; have HB2 := hid hb2; clear hown2 hg2 hb2)
        | (refine step_append_rows _ (by rfl) (.tmp 30) (.tmp 33) 22 (by rfl) w.heap.size 30 j0 (.agg #[.string ⟨#[]⟩, .int .i64 0, .string ⟨#[]⟩]) 3 40 Tryz.underlying22 HJ.out hy0 hy1 hy2 rfl (by decide) _ _ _ (by rfl) HO2.out _ m _ (KM.cells (p.take m)) (by rfl) (by rw [KM.cells_len, List.length_take, Nat.min_eq_left (by omega)]; rfl) (KSB.out _ HB2.out) (KM.cells_ones _) (by unfold maxLen; simp; omega) (by simp; omega) hw2 ?_; intro v3 w3 hown3 hg3))
    have hob : KM.Own w.heap.size w3 v3 (p.drop m ++ p.take m) := by
      show w3.ownsRow w.heap.size 30 3 v3 (p.drop m ++ p.take m).length (KM.cells (p.drop m ++ p.take m))
      rw [KM.cells_append, List.length_append, List.length_drop, List.length_take, Nat.min_eq_left (by omega)]
      simpa [Kind.cells] using hown3
    have hb3 : Below w.heap.size w w3 := HB2.out.grown hg3 hw2 (fun k hk => (World.ownsRow.lt HO2.out k hk).1)
    have HB3 := hid hb3
    have HOB := hid hob
    have hw3 := hb3.size
    clear hown3 hg3 hob hb3 HO2 HB2 HN0 HB1 hw2 hw1 KSA KSB hm5 hm3 hm4 q1
    have HFQ : Hid (FitM (p.drop m ++ p.take m)) := ⟨by rw [List.length_append, List.length_drop, List.length_take]; unfold maxLen; omega, fun x hx => by
      rw [List.mem_append] at hx
      rcases hx with hx | hx
      · exact HFP.out.2 x (List.mem_of_mem_drop hx)
      · exact HFP.out.2 x (List.mem_of_mem_take hx)⟩
    have HFR : Hid (FitM (p.drop m ++ p.take m ++ [p[m]])) := ⟨by rw [List.length_append, List.length_append, List.length_drop, List.length_take]; unfold maxLen; simp; omega, fun x hx => by
      rw [List.mem_append] at hx
      rcases hx with hx | hx
      · exact HFQ.out.2 x hx
      · rw [List.mem_singleton] at hx; rw [hx]; exact HFP.out.2 _ (List.getElem_mem hm)⟩
    have HT := hid (ansM_turn p m)
    have HD := hid (ansM_double p m hm)
    have HLA := hid (ansM_len p)
    obtain ⟨L, hL⟩ : ∃ L, ansM p = L := ⟨_, rfl⟩
    obtain ⟨M, hM⟩ : ∃ M, mayM p = M := ⟨_, rfl⟩
    rw [hL, hM] at HT HD
    rw [hL] at HLA
    have HAP : Hid (∀ i, (h : i + 1 < L.length) → L[i] ≠ L[i + 1]) := by subst hL; exact ansM_apart p
    have HL := hid hL
    have HM := hid hM
    clear hL hM
    go_wp2_with fail
    refine (pnorm_any _ p w3 (Kind.is_kept HV.out HB3.out) HFP.out).mono ?_
    rintro e w4 ⟨⟨u4, he, o4⟩, q4⟩
    rw [HL.out] at o4
    rw [HM.out] at he
    obtain ⟨p4, c4, hu4⟩ := Kind.own_shape o4
    subst hu4
    subst he
    have O4 := hid o4
    have B4 : Hid (Below w.heap.size w w4) := bel_then HB3.out hw3 q4
    have OB4 := hid (Kind.own_on HOB.out q4)
    have HVB : Hid (∀ k, v3.ownBlock = some k → k < w3.heap.size) := fun k hk => (World.ownsRow.lt HOB.out k hk).2
    clear o4 q4 HOB
    go_wp2_with fail
    refine (pnorm_any _ (p.drop m ++ p.take m) w4 (Kind.own_is OB4.out) HFQ.out).mono ?_
    rintro e w5 ⟨⟨u5, he, o5⟩, q5⟩
    rw [HT.out.2] at o5
    rw [HT.out.1] at he
    subst he
    have hmm := int_same M
    have O5 := hid (Kind.own_on O4.out q5)
    have OB5 := hid (Kind.own_on OB4.out q5)
    have B5 : Hid (Below w.heap.size w w5) := bel_then B4.out B4.out.size q5
    have HS := hid (rsameM_any (.slice p4 L.length c4) u5 L L w5 (Kind.own_is O5.out) (Kind.own_is o5) (Nat.le_trans HLA.out (by decide)))
    rw [decide_eq_true rfl] at HS
    clear o5 q5 OB4 O4 B4
    go_wp2_with fail
    refine HS.out.mono ?_
    rintro e w6 ⟨rfl, n6, rfl⟩
    have B6 : Hid (Below w.heap.size w (w5.drewN n6)) := bel_drewN B5.out n6
    clear HS hmm
    by_cases h0 : M = 0
    · subst h0
      by_cases h7 : p.length ≤ 7
      · have h7z : ¬ (7 : Int) < (p.length : Int) := by omega
        have hm6 : (m : Int) < (p.length : Int) := by omega
        obtain ⟨c0, c1, c2⟩ := km_cells (Kind.at_kept HAT.out B6.out) m hm
        obtain ⟨D1, D2⟩ := HD.out h7
        obtain ⟨x, hx⟩ : ∃ x, p[m] = x := ⟨_, rfl⟩
        rw [hx] at c0 c1 c2 D1 D2 HFR
        obtain ⟨xf, xo, xt⟩ := x
        simp only at c0 c1 c2
        have HD1 := hid D1
        have HD2 := hid D2
        clear D1 D2 hx HD HT HFQ
        have OB6 : Hid (KM.Own w.heap.size ((w5.drewN n6).alloc (.cells #[.string xf, .int .i64 xo, .string xt] 30)) v3 (p.drop m ++ p.take m)) := World.ownsRow.alloc (w := w5.drewN n6) (own_drew OB5.out n6) _
        have B6a : Hid (Below w.heap.size w ((w5.drewN n6).alloc (.cells #[.string xf, .int .i64 xo, .string xt] 30))) := B6.out.alloc B6.out.size _
        unfold Kind.Own at OB6
        go_wp2_with (first
          | (at_builtin; refine wpList_append_rows _ rfl _ _ 22 rfl w.heap.size 30 j0 (.agg #[.string ⟨#[]⟩, .int .i64 0, .string ⟨#[]⟩]) 3 40 Tryz.underlying22 HJ.out hy0 hy1 hy2 rfl (by decide) _ _ _ rfl OB6.out _ 1 1 (KM.cells [(xf, xo, xt)]) rfl rfl (Or.inr ⟨_, rfl, KM.news (w5.drewN n6) (xf, xo, xt)⟩) (KM.cells_ones _) (by rw [List.length_append, List.length_drop, List.length_take]; unfold maxLen; omega) (by rw [List.length_append, List.length_drop, List.length_take]; omega) B6a.out.size ?_; intro v7 w7 hown7 hg7))
        have O7 : Hid (KM.Own w3.heap.size w7 (.slice p4 L.length c4) L) := own_farO (World.ownsRow.alloc (w := w5.drewN n6) (own_drew O5.out n6) _) hg7 HVB.out
        have B7 : Hid (Below w.heap.size w w7) := B6a.out.grown hg7 B6a.out.size (fun k hk => (World.ownsRow.lt OB6.out k hk).1)
        have OR7 : Hid (KM.Own w.heap.size w7 v7 (p.drop m ++ p.take m ++ [(xf, xo, xt)])) := Kind.own_snoc hown7 rfl rfl
        clear hown7 hg7 OB6 B6a OB5 O5 c0 c1 c2
        refine (pnorm_any _ _ w7 (Kind.own_is OR7.out) HFR.out).mono ?_
        rintro e w8 ⟨⟨u8, he, o8⟩, q8⟩
        rw [HD2.out] at o8
        rw [HD1.out] at he
        subst he
        have O8 := hid (Kind.own_on O7.out q8)
        have B8 : Hid (Below w.heap.size w w8) := bel_then B7.out B7.out.size q8
        have P8 := hid o8
        clear o8 q8 O7 B7 OR7
        go_wp2_with fail
        go_loopg [13] L.length (fun g vi wr => ∃ i n : Nat, vi = .int .i64 i ∧ 1 ≤ i ∧ i ≤ L.length + 1 ∧ L.length - i ≤ g ∧ wr = w8.drewN n)
        case atStart => exact ⟨1, 0, rfl, Nat.le_refl _, by omega, by omega, rfl⟩
        case round =>
          obtain ⟨i, n, rfl, hi1, hi2, hg, rfl⟩ := hrel
          by_cases hlt : i < L.length
          · have hltz : (i : Int) < (L.length : Int) := by omega
            have hla := HLA.out
            have hwr : IntKind.i64.wrap ((i : Int) - 1) = (i : Int) - 1 := by simp [IntKind.wrap, IntKind.signed, IntKind.bits]; omega
            have hwr' : wrap64 ((i : Int) - 1) = (i : Int) - 1 := by simp [wrap64]; omega
            have hiz : (0 : Int) ≤ i := by omega
            have hiz1 : (0 : Int) ≤ (i : Int) - 1 := by omega
            have hiz2 : (i : Int) - 1 < (L.length : Int) := by omega
            have hit : ((i : Int) - 1).toNat = i - 1 := by omega
            obtain ⟨g, o, rfl, hat⟩ : ∃ g o, p4 = some ⟨g, o, none⟩ ∧ KM.At w8 g o L := by
              obtain ⟨x, y, h1, h2⟩ := Kind.own_is O8.out
              cases h1
              rcases h2 with h | h
              · rw [h] at hlt; simp at hlt
              · exact h
            obtain ⟨c0, c1, c2⟩ := km_cells hat i hlt
            obtain ⟨y0, y1, y2⟩ := km_cells hat (i - 1) (by omega)
            have hne := HAP.out (i - 1) (by omega)
            have e1 : L[i - 1 + 1]'(by omega) = L[i] := by congr 1; omega
            rw [e1] at hne
            clear e1 hat
            obtain ⟨x, hx⟩ : ∃ x, L[i] = x := ⟨_, rfl⟩
            obtain ⟨y, hy⟩ : ∃ y, L[i - 1] = y := ⟨_, rfl⟩
            rw [hx] at c0 c1 c2 hne
            rw [hy] at y0 y1 y2 hne
            have heq := fun W => eql_term y x W
            rw [decide_eq_false hne] at heq
            clear hne hx hy
            go_wp2_with fail
            go_quiet (fail)
            go_wp2_with fail
            go_roundg (L.length - (i + 1))
            case measure => omega
            exact ⟨i + 1, _, by go_num, by omega, by omega, Nat.le_refl _, rfl⟩
          · have hltz : ¬ (i : Int) < (L.length : Int) := by omega
            have HS := hid (rsameM_any (.slice p4 L.length c4) u8 L L (w8.drewN n) (Kind.own_is (own_drew O8.out n)) (Kind.own_is (own_drew P8.out n)) (Nat.le_trans HLA.out (by decide)))
            rw [decide_eq_true rfl] at HS
            go_wp2_with fail
            refine HS.out.mono ?_
            rintro e w9 ⟨rfl, n9, rfl⟩
            go_wp2_with fail
            go_ret
            exact ⟨rfl, bel_drewN B8.out (n + n9)⟩
      · have h7z : (7 : Int) < (p.length : Int) := by omega
        go_wp2_with fail
        go_ret
        exact ⟨rfl, B6.out⟩
    · have hz0 : (M == 0) = false := by simpa using h0
      go_wp2_with fail
      go_ret
      exact ⟨rfl, B6.out⟩

end Go.Proofs.YtfcjnoojcajljabGreatDoor
