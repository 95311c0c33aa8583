/-
  Texts of this claim, one behind the other: Bas Blk Ptm Pkw.
-/
import Derived.Test.YtfcjnoojcajljaaGreatDoorRows
import Derived.Test.YtfcjnoojcajljaaGreatDoorPb
import Derived.Test.YtfcjnoojcajljaaGreatDoorPa
import Derived.MakeChecks
import Derived.ProofKit
import Derived.OpenShut
import Derived.Lay
import Derived.Stop.Joined
import Derived.SliceStrings
import Derived.Deep.SlicePairs
import Derived.Lib.LaidU8
import Derived.SizedLaws
import Derived.ChangeSlices
import Derived.Deep.DeepHandedRow
import Derived.Test.YtfcjnoojcajljaaGreatDoorPe
import Derived.Laws.CopyRow
import Derived.Laws.MakeOwn
import Derived.Deep.CutRange
import Derived.Deep.AppendLies
/-
  What each row's proof opens its arguments by, and what the laid variables give.
-/
namespace Go.Proofs.YtfcjnoojcajljaaGreatDoor
open Go.ChangeShapes Go.WideShapes Go.ChangeAt Go.RowKit Go.Lib Go.Deep

theorem Tryz.own : ownKnob Tryz.prog.godebug = none := by kernel_rfl
theorem Tryz.laidOut : laidOutB Tryz.prog = true := by kernel_rfl
theorem Tryz.cellsFld : Tryz.prog.cellsOf 43 = 2 := by kernel_rfl
theorem Tryz.cellsStr : Tryz.prog.cellsOf 9 = 1 := by kernel_rfl
theorem Tryz.cellsStrs : Tryz.prog.cellsOf 41 = 1 := by kernel_rfl
theorem Tryz.cellsByte : Tryz.prog.cellsOf 5 = 1 := by kernel_rfl

/-- What the rows list. -/
def seatLaid : List (String × DataW Unit) := [("unicode/utf8.acceptRanges", Rows.laid_unicode_utf8_acceptRanges), ("folio/value.plain", Rows.laid_folio_value_plain), ("unicode/utf8.first", Rows.laid_unicode_utf8_first)]

theorem gPlain : Tryz.prog.globalNamed "folio/value.plain" = some 1 := by kernel_rfl
theorem tPlain : (Tryz.prog.globals[1]?).map (·.type) = some 131 := by kernel_rfl
theorem uPair : Tryz.prog.underlying 130 = some (.array 2 5) := by kernel_rfl
theorem cPair : Tryz.prog.cellsOf 130 = 2 := by kernel_rfl
theorem cPlain : Tryz.prog.cellsOf 131 = 26 := by kernel_rfl

def plainLits : List (Int × Int) := [(97, 122), (65, 90), (48, 57), (45, 45), (46, 46), (95, 95), (124, 124), (42, 42), (64, 64), (47, 47), (58, 58), (43, 43), (44, 44)]

theorem plain_data : (Rows.laid_folio_value_plain : DataW Unit) = .agg (plainLits.map fun p => .agg [.lit (.int .u8 p.1), .lit (.int .u8 p.2)]) := rfl

theorem one_byte_read {W : World} {f : Nat} {cs : List Value} {k : Int} {q : List MemPlace} (h : DataW.trod (fun _ => ()) Tryz.prog W 0 (fun _ => true) false f 5 cs = some (.lit (.int .u8 k), q)) : cs = [.int .u8 k] := by
  obtain ⟨n, rfl, e, _⟩ := DataW.trod_int Tryz.underlying5 h
  cases e
  rfl

theorem pair_cells {W : World} {f : Nat} {cs : List Value} {a b : Int} {q : List MemPlace} (hl : cs.length = 2) (h : DataW.trod (fun _ => ()) Tryz.prog W 0 (fun _ => true) false f 130 cs = some (.agg [.lit (.int .u8 a), .lit (.int .u8 b)], q)) : cs = [.int .u8 a, .int .u8 b] := by
  match cs, hl with
  | [x, y], _ =>
    obtain ⟨f0, d0, q0, e0, h0⟩ := array_elem uPair h 0 (by decide)
    obtain ⟨f1, d1, q1, e1, h1⟩ := array_elem uPair h 1 (by decide)
    rw [Tryz.cellsByte] at h0 h1
    simp only [List.getElem?_cons_zero, List.getElem?_cons_succ, Option.some.injEq] at e0 e1
    subst e0 e1
    have k0 := one_byte_read h0
    have k1 := one_byte_read h1
    simp at k0 k1
    rw [k0, k1]

theorem list_pairs : ∀ (n : Nat) (cs : List Value) (ps : List (Int × Int)), cs.length = n * 2 → ps.length = n → (∀ i (h : i < ps.length), (cs.drop (i * 2)).take 2 = [.int .u8 ps[i].1, .int .u8 ps[i].2]) → cs = ps.flatMap fun p => [.int .u8 p.1, .int .u8 p.2]
  | 0, cs, ps, hc, hp, _ => by
    rw [List.length_eq_zero_iff.1 (by omega : cs.length = 0), List.length_eq_zero_iff.1 hp]
    rfl
  | n + 1, cs, ps, hc, hp, h => by
    match ps, hp, cs, hc with
    | _ :: _, _, [], hc => simp at hc
    | _ :: _, _, [_], hc => simp at hc; omega
    | p :: ps, hp, x :: y :: cs, hc =>
      have h0 := h 0 (by simp)
      simp at h0
      have := list_pairs n cs ps (by simp at hc; omega) (by simpa using hp) (fun i hi => by
        have := h (i + 1) (by simp; omega)
        rw [show (i + 1) * 2 = i * 2 + 1 + 1 by omega] at this
        simpa using this)
      rw [List.flatMap_cons, ← this, h0.1, h0.2]
      rfl

theorem plain_of_laid {W : World} (h : laidMetH Tryz.prog seatLaid W) : PlainAt W := by
  rw [MakeChecks.laidMetH_plain _ _ _ (by kernel_rfl)] at h
  obtain ⟨g, t, cs, fuel, p, hg, ht, hv, hd⟩ := laidMet.reads h (n := "folio/value.plain") (d := Rows.laid_folio_value_plain) (.tail _ (.head _))
  obtain rfl := Option.some.inj (gPlain.symm.trans hg)
  obtain rfl := Option.some.inj (tPlain.symm.trans ht)
  rw [plain_data] at hd
  obtain ⟨_, _, _, _, hlen, _, _⟩ := DataW.trod_array Tryz.underlying131 hd
  rw [cPlain] at hlen
  have hcs := list_pairs 13 cs.toList plainLits (by simpa using hlen) rfl (fun i hi => by
    have hi13 : i < 13 := hi
    obtain ⟨f, d, q, e, hx⟩ := array_elem Tryz.underlying131 hd i hi13
    rw [cPair] at hx
    rw [List.getElem?_map, List.getElem?_eq_getElem hi] at e
    simp only [Option.map_some, Option.some.injEq] at e
    subst e
    exact pair_cells (by rw [List.length_take, List.length_drop]; rw [hlen]; omega) hx)
  have hv' : W.var? Tryz.prog "folio/value.plain" = some cs := hv
  simp only [World.var?, hg, Option.bind_some] at hv'
  split at hv'
  · rename_i c t' fr hh
    cases hv'
    refine ⟨t', fr, ?_⟩
    rw [hh]
    have : cs = plainCells := Array.toList_inj.1 (by rw [hcs]; rfl)
    rw [this]
  · cases hv'

/-- A slice of texts that came in. -/
theorem open_txt {H : Type} {enc : TypeId × Value → H} {W : World} {f : Nat} {v : Value} {x : DataW H × List MemPlace} (h : DataW.trod enc Tryz.prog W 0 (fun _ => true) true f 41 [v] = some x) :
    ∃ p cap, ∃ ts : List ByteArray, v = .slice p ts.length cap ∧ TxtAt W p ts ∧ FitT ts := by
  rcases open_strings Tryz.underlying41 Tryz.underlying9 Tryz.cellsStr h with ⟨hcs, _⟩ | ⟨a, l, c, ss, hcs, _, hl, hm, hz, _, hcell, hws⟩
  · simp at hcs
    exact ⟨none, 0, [], hcs, Or.inl rfl, by unfold maxLen; simp, fun t ht => by simp at ht⟩
  · simp at hcs
    have hz' : ss.length = c := by simpa using hz
    have hlen : (ss.take l).length = l := by rw [List.length_take]; omega
    refine ⟨some a, c, ss.take l, by rw [hlen]; exact hcs, ?_, by omega, fun t ht => hws t (List.mem_of_mem_take ht)⟩
    by_cases h0 : l = 0
    · subst h0; exact Or.inl rfl
    · right
      have hc0 := hcell 0 (by omega)
      obtain ⟨b, off, spot⟩ := a
      have hspot : spot = none := by simpa [Addr.add] using World.cell?_spot hc0
      subst hspot
      refine ⟨b, off, rfl, fun i hi => ?_⟩
      rw [hlen] at hi
      have := hcell i (by omega)
      rw [addr_add] at this
      rw [this, List.getElem_take, List.getD_eq_getElem?_getD, List.getElem?_eq_getElem (by omega)]
      rfl

set_option maxRecDepth 100000 in
/-- A slice of fields that came in. -/
theorem open_fields {H : Type} {enc : TypeId × Value → H} {W : World} {b0 : Nat} {v : Value} {dd : DataW H} {p : List MemPlace}
    (hv : Value.okWide Tryz.prog W .any b0 31 v) (h : DataW.Trod enc Tryz.prog W 0 (fun _ => true) true 31 v dd p) : ∃ d : List Fx, IsXs W v d ∧ FitX d := by
  obtain ⟨a0, len, cap, rfl⟩ := okWide_slice Tryz.underlying31 hv
  obtain ⟨fuel, hf⟩ := h
  rcases open_slice_pairs Tryz.underlying31 Tryz.underlying43 Tryz.cellsFld rfl rfl Tryz.cellsStr Tryz.cellsStrs hf with ⟨hcs, _⟩ | ⟨a, l, c, m, n, V0, V1, D0, D1, P0, P1, hcs, _, hl, hm, hmm, hdat, hall⟩
  · simp [Value.cells] at hcs
    obtain ⟨rfl, rfl, rfl⟩ := hcs
    exact ⟨[], ⟨none, 0, rfl, Or.inl rfl, fun x hx => by simp at hx⟩, by unfold maxLen; simp, fun x hx => by simp at hx⟩
  · simp [Value.cells] at hcs
    obtain ⟨rfl, rfl, rfl⟩ := hcs
    have hm' : m = cap := by simpa using hmm
    subst hm'
    have each : ∀ i, i < m → ∃ x : Fx, V0 i = .string x.name ∧ V1 i = x.sl ∧ TxtAt W x.p x.txt ∧ FitF x.fld := by
      intro i hi
      obtain ⟨_, _, h3, h4⟩ := hall i hi
      obtain ⟨s, e0, _, hs⟩ := DataW.trod_string Tryz.underlying9 h3
      simp only [List.cons.injEq, and_true] at e0
      obtain ⟨q, cc, ts, e1, ht, hft⟩ := open_txt h4
      exact ⟨⟨s, q, cc, ts⟩, e0, e1, ht, hs, hft⟩
    by_cases h0 : len = 0
    · subst h0
      exact ⟨[], ⟨_, _, rfl, Or.inl rfl, fun x hx => by simp at hx⟩, by unfold maxLen; simp, fun x hx => by simp at hx⟩
    · have hc0 := (hall 0 (by omega)).1
      obtain ⟨b, off, spot⟩ := a
      have hspot : spot = none := by simpa [Addr.add] using World.cell?_spot hc0
      subst hspot
      let f : Nat → Fx := fun i => if h : i < m then (each i h).choose else default
      have fs : ∀ i (h : i < m), V0 i = .string (f i).name ∧ V1 i = (f i).sl ∧ TxtAt W (f i).p (f i).txt ∧ FitF (f i).fld := fun i h => by
        have e : f i = (each i h).choose := dif_pos h
        rw [e]
        exact (each i h).choose_spec
      have hlen : ((List.range len).map f).length = len := by simp
      refine ⟨(List.range len).map f, ⟨_, m, by rw [hlen], Or.inr ⟨b, off, rfl, fun i hi => ?_⟩, fun x hx => ?_⟩, by rw [hlen]; omega, fun x hx => ?_⟩
      · have hi0 : i < len := by simpa using hi
        obtain ⟨h1, h2, _, _⟩ := hall i (by omega)
        obtain ⟨g1, g2, _⟩ := fs i (by omega)
        rw [addr_add] at h1 h2
        have ef : ((List.range len).map f)[i]'hi = f i := by simp
        rw [ef, h1, ← g1]
        refine ⟨rfl, ?_⟩
        rw [Nat.add_assoc, h2, g2]
      · obtain ⟨i, hi, rfl⟩ := List.mem_map.1 hx
        exact (fs i (by have := List.mem_range.1 hi; omega)).2.2.1
      · obtain ⟨i, hi, rfl⟩ := List.mem_map.1 hx
        exact (fs i (by have := List.mem_range.1 hi; omega)).2.2.2

set_option maxRecDepth 100000 in
/-- A slice of bytes that came in. -/
theorem open_bytes {H : Type} {enc : TypeId × Value → H} {W : World} {b0 : Nat} {v : Value} {dd : DataW H} {p : List MemPlace}
    (hv : Value.okWide Tryz.prog W .any b0 78 v) (h : DataW.Trod enc Tryz.prog W 0 (fun _ => true) true 78 v dd p) : ∃ l : List UInt8, RestAt W.heap.size W v l := by
  obtain ⟨a0, len, cap, rfl⟩ := okWide_slice Tryz.underlying78 hv
  obtain ⟨fuel, hf⟩ := h
  rcases open_ints Tryz.underlying78 Tryz.underlying5 Tryz.cellsByte hf with ⟨hcs, _⟩ | ⟨a, l, c, zs, hcs, _, hl, hm, hz, _, hcell, hws⟩
  · simp [Value.cells] at hcs
    obtain ⟨rfl, rfl, rfl⟩ := hcs
    exact ⟨[], none, 0, rfl, by simp, by unfold maxLen; omega, Or.inl rfl⟩
  · simp [Value.cells] at hcs
    obtain ⟨rfl, rfl, rfl⟩ := hcs
    have hz' : zs.length = cap := by simpa using hz
    have hlen : ((zs.take len).map fun z => UInt8.ofNat z.toNat).length = len := by rw [List.length_map, List.length_take]; omega
    refine ⟨(zs.take len).map fun z => UInt8.ofNat z.toNat, some a, cap, by rw [hlen], by rw [hlen]; exact hl, hm, ?_⟩
    by_cases h0 : len = 0
    · subst h0; exact Or.inl (by simp)
    · right
      have hc0 := hcell 0 (by omega)
      obtain ⟨b, off, spot⟩ := a
      have hspot : spot = none := by simpa [Addr.add] using World.cell?_spot hc0
      subst hspot
      refine ⟨b, off, rfl, ?_, fun i hi => ?_⟩
      · have := cell_block hc0
        simpa [Addr.add] using this
      · rw [hlen] at hi
        have := hcell i (by omega)
        rw [addr_add, List.getD_eq_getElem?_getD, List.getElem?_eq_getElem (by omega)] at this
        rw [this]
        have hw := hws _ (List.getElem_mem (show i < zs.length by omega))
        have hb : 0 ≤ zs[i] ∧ zs[i] ≤ 255 := by simpa [Lit.wf, IntKind.min, IntKind.max, IntKind.signed, IntKind.bits] using hw
        simp
        omega

end Go.Proofs.YtfcjnoojcajljaaGreatDoor

/-
  What the bound of a second form gives: how great an argument can be.
-/
namespace Go.Proofs.YtfcjnoojcajljaaGreatDoor
open Go.ChangeShapes Go.WideShapes Go.ChangeAt Go.RowKit Go.Lib Go.Deep

theorem bulk_pos {H : Type} (d : DataW H) : 1 ≤ Rows.uptoBulk d := by
  cases d with
  | lit l => cases l <;> simp [Rows.uptoBulk]
  | nil => simp [Rows.uptoBulk]
  | ptr d => simp [Rows.uptoBulk]
  | slice elems spare => simp [Rows.uptoBulk]
  | agg parts => simp [Rows.uptoBulk]
  | iface t d => simp [Rows.uptoBulk]
  | map entries => simp [Rows.uptoBulk]
  | held h => simp [Rows.uptoBulk]

theorem bulk_sum {H : Type} (l : List (DataW H)) : Rows.uptoBulkAll l = (l.map Rows.uptoBulk).sum := by
  induction l with
  | nil => simp [Rows.uptoBulkAll]
  | cons x r ih => simp [Rows.uptoBulkAll, ih]

theorem bulk_mem {H : Type} {d : DataW H} {l : List (DataW H)} (h : d ∈ l) : Rows.uptoBulk d ≤ Rows.uptoBulkAll l := by
  induction l with
  | nil => cases h
  | cons x r ih =>
    simp only [Rows.uptoBulkAll]
    rcases List.mem_cons.1 h with rfl | h
    · omega
    · have := ih h; omega

theorem bulk_len {H : Type} (l : List (DataW H)) : l.length ≤ Rows.uptoBulkAll l := by
  induction l with
  | nil => simp [Rows.uptoBulkAll]
  | cons x r ih => have := bulk_pos x; simp only [Rows.uptoBulkAll, List.length_cons]; omega

theorem bulk_small {H : Type} {l : List (DataW H)} (hk : Rows.uptoSmall H l = true) : Rows.uptoBulkAll l ≤ 1048576 := of_decide_eq_true hk

/-- A slice of texts that came in, and its bulk. -/
theorem open_txtU {H : Type} {enc : TypeId × Value → H} {W : World} {f : Nat} {v : Value} {x : DataW H × List MemPlace} (h : DataW.trod enc Tryz.prog W 0 (fun _ => true) true f 41 [v] = some x) :
    ∃ p cap, ∃ ts : List ByteArray, v = .slice p ts.length cap ∧ TxtAt W p ts ∧ FitT ts ∧ ts.length + 1 ≤ Rows.uptoBulk x.1 ∧ ∀ t ∈ ts, t.size ≤ Rows.uptoBulk x.1 := by
  rcases open_strings Tryz.underlying41 Tryz.underlying9 Tryz.cellsStr h with ⟨hcs, hx⟩ | ⟨a, l, c, ss, hcs, _, hl, hm, hz, hx, hcell, hws⟩
  · simp at hcs
    exact ⟨none, 0, [], hcs, Or.inl rfl, ⟨by unfold maxLen; simp, fun t ht => by simp at ht⟩, by rw [hx]; simp [Rows.uptoBulk], fun t ht => by simp at ht⟩
  · simp at hcs
    have hz' : ss.length = c := by simpa using hz
    have hlen : (ss.take l).length = l := by rw [List.length_take]; omega
    have hb1 := bulk_len (strs (ss.take l) : List (DataW H))
    have hb2 : (strs (ss.take l) : List (DataW H)).length = l := by rw [show (strs (ss.take l) : List (DataW H)).length = (ss.take l).length by simp [strs], hlen]
    refine ⟨some a, c, ss.take l, by rw [hlen]; exact hcs, ?_, ⟨by omega, fun t ht => hws t (List.mem_of_mem_take ht)⟩, ?_, fun t ht => ?_⟩
    · by_cases h0 : l = 0
      · subst h0; exact Or.inl rfl
      · right
        have hc0 := hcell 0 (by omega)
        obtain ⟨b, off, spot⟩ := a
        have hspot : spot = none := by simpa [Addr.add] using World.cell?_spot hc0
        subst hspot
        refine ⟨b, off, rfl, fun i hi => ?_⟩
        rw [hlen] at hi
        have := hcell i (by omega)
        rw [addr_add] at this
        rw [this, List.getElem_take, List.getD_eq_getElem?_getD, List.getElem?_eq_getElem (by omega)]
        rfl
    · rw [hx, hlen]
      simp only [Rows.uptoBulk]
      omega
    · rw [hx]
      simp only [Rows.uptoBulk]
      have hm' : (DataW.lit (.string t.data.toList) : DataW H) ∈ strs (ss.take l) := by
        unfold strs
        exact List.mem_map.2 ⟨t, ht, rfl⟩
      have := bulk_mem hm'
      simp only [Rows.uptoBulk] at this
      have e : t.data.toList.length = t.size := by simp
      omega

end Go.Proofs.YtfcjnoojcajljaaGreatDoor

/-
  A slice of terms that came in, and its bulk.
-/
namespace Go.Proofs.YtfcjnoojcajljaaGreatDoor
open Go.ChangeShapes Go.WideShapes Go.ChangeAt Go.RowKit Go.Lib Go.Deep

theorem Tryz.cellsTm : Tryz.prog.cellsOf 39 = 3 := by kernel_rfl
theorem Tryz.cellsNum : Tryz.prog.cellsOf 3 = 1 := by kernel_rfl

set_option maxRecDepth 100000 in
/-- One term, from its three cells. -/
theorem open_term {H : Type} {enc : TypeId × Value → H} {W : World} {n : Nat} {cs : List Value} {x : DataW H × List MemPlace} (h : DataW.trod enc Tryz.prog W 0 (fun _ => true) true n 39 cs = some x) :
    ∃ t : Tm, cs = encM t ∧ t.1.size ≤ maxLen ∧ t.2.2.size ≤ maxLen ∧ -9223372036854775808 ≤ t.2.1 ∧ t.2.1 ≤ 9223372036854775807 := by
  obtain ⟨xs, k, _, _, hlen, hxl, hf⟩ := DataW.trod_struct Tryz.underlying39 h
  rw [Tryz.cellsTm] at hlen
  match cs, hlen with
  | [v0, v1, v2], _ =>
    match xs, hxl with
    | [y0, y1, y2], _ =>
      have g0 := hf 0 _ rfl
      have g1 := hf 1 _ rfl
      have g2 := hf 2 _ rfl
      simp [Tryz.cellsStr, Tryz.cellsNum] at g0 g1 g2
      obtain ⟨a, ea, _, ha⟩ := DataW.trod_string Tryz.underlying9 g0
      obtain ⟨o, eo, _, ho⟩ := DataW.trod_int Tryz.underlying3 g1
      obtain ⟨b, eb, _, hb⟩ := DataW.trod_string Tryz.underlying9 g2
      simp only [List.cons.injEq, and_true] at ea eo eb
      have hw : -9223372036854775808 ≤ o ∧ o ≤ 9223372036854775807 := by
        have := ho
        simp [Lit.wf, IntKind.min, IntKind.max, IntKind.signed, IntKind.bits] at this
        omega
      exact ⟨(a, o, b), by rw [ea, eo, eb]; rfl, ha, hb, hw.1, hw.2⟩

set_option maxRecDepth 100000 in
theorem open_terms {H : Type} {enc : TypeId × Value → H} {W : World} {b0 : Nat} {v : Value} {dd : DataW H} {p : List MemPlace}
    (hv : Value.okWide Tryz.prog W .any b0 22 v) (h : DataW.Trod enc Tryz.prog W 0 (fun _ => true) true 22 v dd p) :
    ∃ q : List Tm, KM.Is W v q ∧ FitM q ∧ q.length ≤ Rows.uptoBulk dd ∧ (q = [] ∨ ∃ es sp, dd = .slice es sp ∧ es.length = q.length) := by
  obtain ⟨a0, len, cap, rfl⟩ := okWide_slice Tryz.underlying22 hv
  obtain ⟨fuel, hf⟩ := h
  rcases open_slice Tryz.underlying22 hf with ⟨hcs, _⟩ | ⟨a, l, c, m, n, D, Pl, hcs, _, hl, hm, hmm, hdat, hall⟩
  · simp [Value.cells] at hcs
    obtain ⟨rfl, rfl, rfl⟩ := hcs
    exact ⟨[], KM.is_nil W, ⟨by unfold maxLen; simp, fun x hx => by simp at hx⟩, Nat.zero_le _, Or.inl rfl⟩
  · simp [Value.cells] at hcs
    obtain ⟨rfl, rfl, rfl⟩ := hcs
    have hm' : m = cap := by simpa using hmm
    subst hm'
    rw [Tryz.cellsTm] at hall
    have hdd : dd = .slice ((List.range len).map D) ((List.range (m - len)).map fun j => D (len + j)) := congrArg Prod.fst hdat
    have hbk : len ≤ Rows.uptoBulk dd := by
      rw [hdd]
      simp only [Rows.uptoBulk]
      have := bulk_len ((List.range len).map D)
      simp only [List.length_map, List.length_range] at this
      omega
    have each : ∀ i, i < m → ∃ t : Tm, (∀ j u, (encM t)[j]? = some u → W.cell? (a.add (i * 3 + j)) = some u) ∧ t.1.size ≤ maxLen ∧ t.2.2.size ≤ maxLen ∧ -9223372036854775808 ≤ t.2.1 ∧ t.2.1 ≤ 9223372036854775807 := by
      intro i hi
      obtain ⟨cs', h1, h2⟩ := hall i hi
      obtain ⟨_, hlen, hcell⟩ := World.cells?_some h1
      obtain ⟨t, rfl, ht⟩ := open_term h2
      refine ⟨t, fun j u hu => ?_, ht⟩
      have hj : j < 3 := by
        have := (List.getElem?_eq_some_iff.1 hu).1
        exact this
      have := hcell j hj
      rw [add_add] at this
      rw [this]; exact hu
    by_cases h0 : len = 0
    · subst h0
      exact ⟨[], ⟨_, _, rfl, Or.inl rfl⟩, ⟨by unfold maxLen; simp, fun x hx => by simp at hx⟩, Nat.zero_le _, Or.inl rfl⟩
    · obtain ⟨f, hff⟩ := choose_lt each
      have hc0 := (hff 0 (by omega)).1 0 _ rfl
      obtain ⟨b, off, spot⟩ := a
      have hspot : spot = none := by simpa [Addr.add] using World.cell?_spot hc0
      subst hspot
      have hlen : ((List.range len).map f).length = len := by simp
      refine ⟨(List.range len).map f, ⟨_, m, by rw [hlen], Or.inr ⟨b, off, rfl, fun i hi j u hu => ?_⟩⟩, ⟨by rw [hlen]; omega, fun x hx => ?_⟩, by rw [hlen]; exact hbk, Or.inr ⟨_, _, hdd, by simp⟩⟩
      · have hi0 : i < len := by simpa using hi
        have ef : ((List.range len).map f)[i]'hi = f i := by simp
        rw [ef] at hu
        have := (hff i (by omega)).1 j u hu
        rw [addr_add] at this
        rw [Nat.add_assoc]
        exact this
      · obtain ⟨i, hi, rfl⟩ := List.mem_map.1 hx
        exact (hff i (by have := List.mem_range.1 hi; omega)).2

end Go.Proofs.YtfcjnoojcajljaaGreatDoor

/-
  The walk of PredKeeps.
-/
namespace Go.Proofs.YtfcjnoojcajljaaGreatDoor
open Go.RowKit Go.Lib

/-- A copy of terms into a row with two spare ones. -/
theorem copy_terms (W : World) (g xc : Nat) (xp : Option Addr) (L0 : Array Value) (p : List Tm) (hL : L0.size = (p.length + 2) * 3) (hg : W.heap[g]? = some (.cells L0 39 (0, 0)))
    (hsrc : p.length = 0 ∨ ∃ ad, xp = some ad ∧ ∀ j u, (KM.cells p)[j]? = some u → W.cell? (ad.add j) = some u) :
    ∃ w3, (∀ ty, (Builtin.copy_ #[22, 22] ty #[.slice (some ⟨g, 0, none⟩) p.length (p.length + 2), .slice xp p.length xc]).run Tryz.prog W = .ok (goInt p.length) w3) ∧ w3.heap[g]? = some (.cells (KM.cells p ++ L0.toList.drop (p.length * 3)).toArray 39 (0, 0)) ∧ W.grownBy w3 (some g) := by
  obtain ⟨i0, hi0, _, hz1, _⟩ := info_parts Tryz.infoTrm
  have hlen : (KM.cells p).length = p.length * 3 := KM.cells_len p
  by_cases h0 : p.length = 0
  · obtain rfl := List.length_eq_zero_iff.1 h0
    refine ⟨W, fun ty => ?_, ?_, grownBy_refl _ _⟩
    · cases xp <;> simp [Builtin.copy_, run_underlying Tryz.underlying22, Builtin.lenOf, Builtin.firstCells, sizeOf, typeInfo, hi0, storeCells, loadCells, loadCellsFrom]
    · rw [hg]; simp [Kind.cells]
  · obtain ⟨ad, rfl, hs⟩ := hsrc.resolve_left h0
    have hfc := run_firstCells_some (P := Tryz.prog) W 3 p.length ad p.length xc (KM.cells p) hlen hs
    have hst := run_storeCells_at Tryz.prog g 0 39 (KM.cells p) 0 L0 W hg (by rw [hlen, hL]; omega) (KM.cells_ones p)
    simp only [Nat.add_zero, Nat.zero_add, List.take_zero, List.nil_append, hlen] at hst
    have hmin : Nat.min p.length p.length = p.length := Nat.min_self _
    refine ⟨_, fun ty => by simp [Builtin.copy_, run_underlying Tryz.underlying22, Builtin.lenOf, sizeOf, typeInfo, hi0, hz1, hmin, hfc, hst]; rfl, ?_, ?_⟩
    · exact setRow_heap W g _ _ _ _ hg
    · exact ⟨rfl, rfl, rfl, by simp [World.setRow], fun k _ hne => setRow_other W g k _ (fun e => hne (by rw [e]))⟩

theorem room_own {W : World} {g : Nat} {p : List Tm} {Z : List Value} (hZ : Z.length = 6) (hl : p.length ≤ 2000000) (h : W.heap[g]? = some (.cells (KM.cells p ++ Z).toArray 39 (0, 0))) :
    KM.Own g W (.slice (some ⟨g, 0, none⟩) p.length (p.length + 2)) p := by
  have hlen : (KM.cells p).length = p.length * 3 := KM.cells_len p
  refine ⟨KM.cells_len p, Or.inr ⟨g, p.length + 2, _, rfl, Nat.le_refl _, h, by omega, by unfold maxLen; omega, ?_, ?_⟩⟩
  · show ((KM.cells p ++ Z).toArray).size = (p.length + 2) * 3
    simp [hlen, hZ]; omega
  · show ((KM.cells p ++ Z).toArray).toList.take (p.length * 3) = _
    rw [← hlen]; simp

/-- What is left as it was: the room, and what lies in [B, C). -/
def KeptM (w : World) (g B C : Nat) (W0 W : World) : Prop :=
  (∀ k, (k = g ∨ B ≤ k ∧ k < C) → W.heap[k]? = W0.heap[k]?) ∧ Below w.heap.size w W ∧ C ≤ W.heap.size

theorem KeptM.grow {w W0 W W' : World} {g B C : Nat} {r : Option Nat} (h : KeptM w g B C W0 W) (hg : W.grownBy W' r) (hgC : g < C) (hr : ∀ k, r = some k → w.heap.size ≤ k ∧ k ≠ g ∧ (k < B ∨ C ≤ k)) : KeptM w g B C W0 W' :=
  ⟨fun k hk => (hg.block k (by rcases hk with rfl | hk <;> have := h.2.2 <;> omega) (fun e => by
      obtain ⟨_, h1, h2⟩ := hr k e.symm
      rcases hk with rfl | hk
      · exact h1 rfl
      · omega)).trans (h.1 k hk), h.2.1.grown hg h.2.1.size (fun k hk => (hr k hk).1), Nat.le_trans h.2.2 hg.size⟩

theorem KeptM.alloc {w W0 W : World} {g B C : Nat} (h : KeptM w g B C W0 W) (hgC : g < C) (o : Obj) : KeptM w g B C W0 (W.alloc o) :=
  ⟨fun k hk => (Below.heap_alloc W o k (by rcases hk with rfl | hk <;> have := h.2.2 <;> omega)).trans (h.1 k hk), h.2.1.alloc h.2.1.size o, by have := h.2.2; simp; omega⟩

/-- v's block is none that is kept. -/
def ZoneM (A B C : Nat) (v : Value) : Prop := ∀ k, v.ownBlock = some k → A ≤ k ∧ (k < B ∨ C ≤ k)

theorem own_someM {n0 n c : Nat} {w : World} {q : Option Addr} {d : List Tm} (h : KM.Own n0 w (.slice q n c) d) (h0 : 0 < d.length) : ∃ g, q = some ⟨g, 0, none⟩ ∧ n0 ≤ g := by
  rcases h.2 with ⟨_, h1⟩ | ⟨g, cap, cur, hv, hb, _⟩
  · omega
  · injection hv with h1 h2 h3
    exact ⟨g, h1, hb⟩

set_option maxHeartbeats 16000000 in
set_option maxRecDepth 100000 in
theorem pkeeps_any (v : Value) (p : List Tm) (w : World) (hp : PlainAt w) (hv : KM.Is w v p) (hfp : FitM p) (hl : p.length ≤ 2000000) :
    Calls Tryz.prog 8 #[v] w fun e w' => e = .returned (.bool true) ∧ Below w.heap.size w w' := by
  obtain ⟨j0, hj0, hy0, hy1, hy2⟩ := info_parts Tryz.infoTrm
  have HMK : Hid (∀ W : World, (Instr.makeSlice 22 (.int .i64 (p.length : Int)) (.int .i64 ((p.length : Int) + 2))).run Tryz.prog W = .ok (.slice (some ⟨W.heap.size, 0, none⟩) p.length (p.length + 2)) (W.alloc (.cells (madeCells #[.string ⟨#[]⟩, .int .i64 0, .string ⟨#[]⟩] ((p.length + 2) * 3)) 39))) := fun W => by
    have := run_make (P := Tryz.prog) W 22 39 j0 (.agg #[.string ⟨#[]⟩, .int .i64 0, .string ⟨#[]⟩]) Tryz.underlying22 hj0 hy0 .i64 .i64 (p.length : Int) ((p.length : Int) + 2) (by omega) (by omega) (by rw [hy2]; omega) (by omega)
    rw [this, hy1, show ((p.length : Int) + 2).toNat = p.length + 2 by omega, Int.toNat_natCast]
    rfl
  have HJ := hid hj0
  have HP := hid hp
  have HV := hid hv
  have HFP := hid hfp
  clear hj0 hp hv hfp
  obtain ⟨pa, ca, rfl, hda⟩ := HV.out
  have KSA : Hid (∀ W, Below w.heap.size w W → p.length = 0 ∨ ∃ ad, pa = some ad ∧ ∀ j u, (KM.cells p)[j]? = some u → W.cell? (ad.add j) = some u) := fun W hW => Kind.src (by
    rcases hda with h | ⟨b, off, h1, h2⟩
    · exact Or.inl h
    · exact Or.inr ⟨b, off, h1, Kind.at_kept h2 hW⟩)
  clear hda
  go_enter Tryz.func8, Tryz.ntmps8
  go_wp2_with fail
  refine (said.fixed _ HP.out).mono ?_
  rintro e w1 ⟨rfl, q1⟩
  have hmk := HMK.out w1
  obtain ⟨L0, hL0⟩ : ∃ L0, madeCells #[.string ⟨#[]⟩, .int .i64 0, .string ⟨#[]⟩] ((p.length + 2) * 3) = L0 := ⟨_, rfl⟩
  have hL0s : L0.size = (p.length + 2) * 3 := by rw [← hL0]; exact size_madeCells _ _
  rw [hL0] at hmk
  clear hL0
  obtain ⟨g, hg⟩ : ∃ g, w1.heap.size = g := ⟨_, rfl⟩
  have hwg : w.heap.size ≤ g := by rw [← hg]; exact q1.size
  have h2 : (w1.alloc (.cells L0 39)).heap[g]? = some (.cells L0 39 (0, 0)) := by rw [← hg]; exact heap_alloc_new w1 _
  have hs2 : (w1.alloc (.cells L0 39)).heap.size = g + 1 := by rw [World.size_alloc, hg]
  have b2 : Below w.heap.size w (w1.alloc (.cells L0 39)) := q1.alloc q1.size _
  obtain ⟨w3, hcp, h3, hg3⟩ := copy_terms (w1.alloc (.cells L0 39)) g ca pa L0 p hL0s h2 (KSA.out _ b2)
  have hZ : (L0.toList.drop (p.length * 3)).length = 6 := by rw [List.length_drop, Array.length_toList, hL0s]; omega
  obtain ⟨Z, hZe⟩ : ∃ Z, L0.toList.drop (p.length * 3) = Z := ⟨_, rfl⟩
  rw [hZe] at h3 hZ
  have hlen : (KM.cells p).length = p.length * 3 := KM.cells_len p
  have cm : ∃ u, w3.cell? ⟨g, p.length * 3 + 2, none⟩ = some u := by
    rw [cell_of_row w3 g _ _ _ _ h3]
    refine ⟨_, Array.getElem?_eq_getElem (by simp [hlen, hZ])⟩
  obtain ⟨um, cm⟩ := cm
  have fm : w3.frozen? ⟨g, p.length * 3 + 2, none⟩ = false := Lib.frozen_of_heap h3 _
  have OR3 := hid (room_own hZ hl h3)
  have B3 : Hid (Below w.heap.size w w3) := b2.grown hg3 (by omega) (fun k hk => by cases hk; omega)
  have S3 : Hid (g < w3.heap.size) := (Array.getElem?_eq_some_iff.1 h3).1
  have OR4 : Hid (KM.Own g (w3.setCell ⟨g, p.length * 3 + 2, none⟩ (.string ⟨#[109, 97, 114, 107]⟩)) (.slice (some ⟨g, 0, none⟩) p.length (p.length + 2)) p) := own_past [.string ⟨#[109, 97, 114, 107]⟩] w3 (p.length * 3 + 2) OR3.out rfl (by omega)
  have M4 : Hid ((w3.setCell ⟨g, p.length * 3 + 2, none⟩ (.string ⟨#[109, 97, 114, 107]⟩)).cell? ⟨g, p.length * 3 + 2, none⟩ = some (.string ⟨#[109, 97, 114, 107]⟩)) := by
    have e4 : (w3.setCell ⟨g, p.length * 3 + 2, none⟩ (.string ⟨#[109, 97, 114, 107]⟩)).heap[g]? = some (.cells ((KM.cells p ++ Z).toArray.setIfInBounds (p.length * 3 + 2) (.string ⟨#[109, 97, 114, 107]⟩)) 39 (0, 0)) := by
      simp [World.setCell, Array.getElem?_modify, h3]
    show _ = _
    rw [cell_of_row _ g _ _ _ _ e4, Array.getElem?_setIfInBounds_self_of_lt (by simp [hlen, hZ])]
  have B4 : Hid (Below w.heap.size w (w3.setCell ⟨g, p.length * 3 + 2, none⟩ (.string ⟨#[109, 97, 114, 107]⟩))) := B3.out.setCell (p := ⟨g, p.length * 3 + 2, none⟩) hwg _
  have S4 : Hid (g < (w3.setCell ⟨g, p.length * 3 + 2, none⟩ (.string ⟨#[109, 97, 114, 107]⟩)).heap.size) := by show g < _; have := S3.out; simpa [World.setCell] using this
  have n1 : (0 : Int) ≤ (p.length : Int) + 2 := by omega
  have n2 : (p.length : Int) < (p.length : Int) + 2 := by omega
  clear h3 hg3 hZe hZ hL0s h2 hs2 b2 q1 OR3 B3 S3 hlen
  rw [hg] at hmk
  go_upto_region 6 with fail
  obtain ⟨W4, hW4⟩ : ∃ W4, w3.setCell ⟨g, p.length * 3 + 2, none⟩ (.string ⟨#[109, 97, 114, 107]⟩) = W4 := ⟨_, rfl⟩
  rw [hW4] at OR4 M4 B4 S4 ⊢
  clear hcp hmk cm fm hW4 hg
  have HLA := hid (ansM_len p)
  obtain ⟨L, hL⟩ : ∃ L, ansM p = L := ⟨_, rfl⟩
  rw [hL] at HLA
  have HL := hid hL
  clear hL
  go_wp2_with fail
  refine (pnorm_any _ p W4 (Kind.own_is OR4.out) HFP.out).mono ?_
  rintro e w5 ⟨⟨u5, he, o5⟩, q5⟩
  rw [HL.out] at o5
  obtain ⟨p5, c5, hu5⟩ := Kind.own_shape o5
  subst hu5
  subst he
  have O5 := hid o5
  have Q5 := hid q5
  have B5 : Hid (Below w.heap.size w w5) := bel_then B4.out B4.out.size q5
  clear o5 q5
  go_wp2_with fail
  refine (pnorm_any _ p w5 (Kind.own_is (Kind.own_on OR4.out Q5.out)) HFP.out).mono ?_
  rintro e w6 ⟨⟨u6, he, o6⟩, q6⟩
  rw [HL.out] at o6
  subst he
  have O6 := hid o6
  have Q6 := hid q6
  have B6 : Hid (Below w.heap.size w w6) := bel_then B5.out B5.out.size q6
  clear o6 q6
  go_wp2_with fail
  refine (rnormM_any _ p w6 (Kind.is_kept HV.out B6.out) HFP.out).mono ?_
  rintro e w7 ⟨⟨u7, he, o7⟩, q7⟩
  rw [HL.out] at o7
  subst he
  have B7 : Hid (Below w.heap.size w w7) := bel_then B6.out B6.out.size q7
  have O57 := hid (Kind.own_on (Kind.own_on O5.out Q6.out) q7)
  have O67 := hid (Kind.own_on O6.out q7)
  have O77 := hid o7
  have s5 := Q5.out.size
  have s6 := Q6.out.size
  have s7 := q7.size
  have s4 := S4.out
  have R7 : Hid (w7.heap[g]? = W4.heap[g]?) := (q7.block g (by omega)).trans ((Q6.out.block g (by omega)).trans (Q5.out.block g s4))
  have hgC : g < w7.heap.size := by omega
  have HS := hid (rsameM_any (.slice p5 L.length c5) u7 L L w7 (Kind.own_is O57.out) (Kind.own_is o7) (Nat.le_trans HLA.out (by decide)))
  rw [decide_eq_true rfl] at HS
  clear o7 q7
  go_wp2_with fail
  refine HS.out.mono ?_
  rintro e w8 ⟨rfl, n8, rfl⟩
  have Z0 : Hid (ZoneM W4.heap.size w5.heap.size w7.heap.size (.slice p5 L.length c5)) := fun k hk => ⟨(World.ownsRow.lt O5.out k hk).1, Or.inl (World.ownsRow.lt O5.out k hk).2⟩
  have K0 : Hid (KeptM w g w5.heap.size w7.heap.size w7 (w7.drewN n8)) := ⟨fun k _ => rfl, bel_drewN B7.out n8, Nat.le_refl _⟩
  have A0 : Hid (KM.Own W4.heap.size (w7.drewN n8) (.slice p5 L.length c5) L) := own_drew O57.out n8
  have HFIN : Hid (∀ W, KeptM w g w5.heap.size w7.heap.size w7 W → KM.Is W (.slice (some ⟨g, 0, none⟩) p.length (p.length + 2)) p ∧ W.cell? ⟨g, p.length * 3 + 2, none⟩ = some (.string ⟨#[109, 97, 114, 107]⟩) ∧ KM.Is W u6 L ∧ KM.Is W u7 L) := fun W hK => by
    have hb := (hK.1 g (Or.inl rfl)).trans R7.out
    refine ⟨Kind.own_is (K := KM) (n0 := g) (own_same OR4.out fun k hk => by cases hk; exact hb), (World.cell?_of_block hb).trans M4.out, Kind.own_is (K := KM) (n0 := w5.heap.size) (own_same O67.out fun k hk => hK.1 k (Or.inr (World.ownsRow.lt O67.out k hk))), Kind.own_is (K := KM) (n0 := w6.heap.size) (own_same O77.out fun k hk => hK.1 k (Or.inr ⟨?_, (World.ownsRow.lt O77.out k hk).2⟩))⟩
    have := (World.ownsRow.lt O77.out k hk).1
    omega
  clear HS O5 O6 O57 R7 M4 OR4 O67 O77 Q5 Q6 B5 B6 B4 S4
  go_wp2_with fail
  go_loopg [52] L.length (fun gg vi wr => ∃ (i : Nat) (r : List Tm), vi = .int .i64 i ∧ i ≤ L.length ∧ L.length - i ≤ gg ∧ Hid (r.length = L.length) ∧ Hid (KM.Own W4.heap.size wr (.slice p5 L.length c5) r) ∧ Hid (KeptM w g w5.heap.size w7.heap.size w7 wr))
  case atStart => exact ⟨0, L, rfl, by omega, by omega, rfl, A0, K0⟩
  case round =>
    obtain ⟨i, r, rfl, hi, hgg, HRL, HO, HK⟩ := hrel
    by_cases hlt : i < L.length
    · have hltz : (i : Int) < (L.length : Int) := by omega
      have hiz : (0 : Int) ≤ i := by omega
      have hla := HLA.out
      obtain ⟨ga, hpa, hga⟩ := own_someM HO.out (by rw [HRL.out]; omega)
      subst hpa
      have HZ : Hid (∀ k, some ga = some k → w.heap.size ≤ k ∧ k ≠ g ∧ (k < w5.heap.size ∨ w7.heap.size ≤ k)) := fun k hk => by
        have h := Z0.out k hk
        exact ⟨by omega, by omega, h.2⟩
      obtain ⟨c0, c1, c2, f0, f1, f2⟩ := own_cells (d := r.toArray) HO.out i (by have := HRL.out; simp; omega)
      have HPUT := hid (own_put HO.out HRL.out i (by rw [HRL.out]; exact hlt) (⟨#[119, 105, 112, 101, 100]⟩, 0, ⟨#[]⟩))
      go_wp2_with fail
      go_roundg (L.length - (i + 1))
      case measure => omega
      refine ⟨i + 1, r.set i (⟨#[119, 105, 112, 101, 100]⟩, 0, ⟨#[]⟩), by go_num, by omega, by omega, (by show _ = _; rw [List.length_set]; exact HRL.out), HPUT.out, ?_⟩
      exact ((HK.out.grow (grown_set _ ga (i * 3) _) hgC HZ.out).grow (grown_set _ ga (i * 3 + 1) _) hgC HZ.out).grow (grown_set _ ga (i * 3 + 2) _) hgC HZ.out
    · have hltz : ¬ (i : Int) < (L.length : Int) := by omega
      go_wp2_with fail
      go_loopg [4, 60] 10 (fun gg v4 v60 wr => ∃ (i : Nat) (r : List Tm), v60 = .int .i64 i ∧ i ≤ 10 ∧ 10 - i ≤ gg ∧ Hid (r.length ≤ 8 + i) ∧ Hid (KM.Own W4.heap.size wr v4 r) ∧ Hid (ZoneM W4.heap.size w5.heap.size w7.heap.size v4) ∧ Hid (KeptM w g w5.heap.size w7.heap.size w7 wr))
      case atStart => exact ⟨0, r, rfl, by omega, by omega, (by show _ ≤ _; rw [HRL.out]; exact HLA.out), HO, Z0, HK⟩
      case round =>
        clear HO HK HRL hltz hi hgg hlt
        obtain ⟨j, t, rfl, hj, hgj, HTL, HO, HZ, HK⟩ := hrel
        by_cases hjt : j < 10
        · have hjz : (j : Int) < 10 := by omega
          have htl := HTL.out
          have HOA : Hid (KM.Own W4.heap.size (wr.alloc (.cells #[.string ⟨#[109, 111, 114, 101]⟩, .int .i64 0, .string ⟨#[]⟩] 39)) u4 t) := World.ownsRow.alloc HO.out _
          have HKA : Hid (KeptM w g w5.heap.size w7.heap.size w7 (wr.alloc (.cells #[.string ⟨#[109, 111, 114, 101]⟩, .int .i64 0, .string ⟨#[]⟩] 39))) := HK.out.alloc hgC _
          have hsz := HKA.out.2.2
          unfold Kind.Own at HOA
          go_wp2_with (first
            | (at_builtin; refine wpList_append_lies _ rfl _ _ 22 rfl W4.heap.size 39 j0 (.agg #[.string ⟨#[]⟩, .int .i64 0, .string ⟨#[]⟩]) 3 40 Tryz.underlying22 HJ.out hy0 hy1 hy2 rfl (by decide) _ _ _ rfl HOA.out _ 1 1 (KM.cells [(⟨#[109, 111, 114, 101]⟩, 0, ⟨#[]⟩)]) rfl rfl (KM.news wr (⟨#[109, 111, 114, 101]⟩, 0, ⟨#[]⟩)) (KM.cells_ones _) (by decide) (by unfold maxLen; omega) (by omega) (by omega) _ rfl ?_; intro g9 cap9 w9 hown9 hg9 hat9 hlt9))
          go_roundg (10 - (j + 1))
          case measure => omega
          refine ⟨j + 1, t ++ [(⟨#[109, 111, 114, 101]⟩, 0, ⟨#[]⟩)], by go_num, by omega, by omega, (by show _ ≤ _; rw [List.length_append]; simp; omega), Kind.own_snoc hown9 rfl rfl, fun k hk => ?_, HKA.out.grow hg9 hgC fun k hk => ?_⟩
          · cases hk
            rcases hat9 with h | h
            · exact HZ.out _ h
            · subst h
              exact ⟨Nat.le_trans (show W4.heap.size ≤ w7.heap.size by omega) hsz, Or.inr hsz⟩
          · have h := HZ.out k hk
            exact ⟨by omega, by omega, h.2⟩
        · have hjz : ¬ (j : Int) < 10 := by omega
          obtain ⟨i1, cmk, i2, i3⟩ := HFIN.out wr HK.out
          have HS1 := hid (rsameM_any (.slice (some ⟨g, 0, none⟩) p.length (p.length + 2)) (.slice pa p.length ca) p p wr i1 (Kind.is_kept HV.out HK.out.2.1) HFP.out.1)
          rw [decide_eq_true rfl] at HS1
          have HS2 : Hid (∀ n, Calls Tryz.prog 12 #[u6, u7] (wr.drewN n) fun e w' => e = .returned (.bool true) ∧ ∃ m, w' = (wr.drewN n).drewN m) := fun n => by
            have := rsameM_any u6 u7 L L (wr.drewN n) (Kind.is_kept i2 (bel_drewN (Below.refl _ _) n)) (Kind.is_kept i3 (bel_drewN (Below.refl _ _) n)) (Nat.le_trans HLA.out (by decide))
            rwa [decide_eq_true rfl] at this
          clear i1 i2 i3
          go_wp2_with fail
          refine HS1.out.mono ?_
          rintro e wa ⟨rfl, na, rfl⟩
          go_wp2_with fail
          refine (HS2.out na).mono ?_
          rintro e wb ⟨rfl, nb, rfl⟩
          go_wp2_with fail
          go_ret
          exact ⟨rfl, bel_drewN HK.out.2.1 (na + nb)⟩

end Go.Proofs.YtfcjnoojcajljaaGreatDoor
