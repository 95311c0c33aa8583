/-
  Texts of this claim, one behind the other: Bas Blk Ptm Blf Pwx.
-/
import Derived.Test.YtfcjnoojcajljaaGreatDoorRows
import Derived.Test.YtfcjnoojcajljaaGreatDoorPb
import Derived.Test.YtfcjnoojcajljaaGreatDoorPa
import Derived.MakeChecks
import Derived.ProofKit
import Derived.OpenShut
import Derived.Lay
import Derived.Stop.Joined
import Derived.SliceStrings
import Derived.Deep.SlicePairs
import Derived.Lib.LaidU8
import Derived.SizedLaws
import Derived.ChangeSlices
import Derived.Deep.DeepHandedRow
import Derived.Test.YtfcjnoojcajljaaGreatDoorPe
import Derived.Deep.CutRange
/-
  What each row's proof opens its arguments by, and what the laid variables give.
-/
namespace Go.Proofs.YtfcjnoojcajljaaGreatDoor
open Go.ChangeShapes Go.WideShapes Go.ChangeAt Go.RowKit Go.Lib Go.Deep

theorem Tryz.own : ownKnob Tryz.prog.godebug = none := by kernel_rfl
theorem Tryz.laidOut : laidOutB Tryz.prog = true := by kernel_rfl
theorem Tryz.cellsFld : Tryz.prog.cellsOf 43 = 2 := by kernel_rfl
theorem Tryz.cellsStr : Tryz.prog.cellsOf 9 = 1 := by kernel_rfl
theorem Tryz.cellsStrs : Tryz.prog.cellsOf 41 = 1 := by kernel_rfl
theorem Tryz.cellsByte : Tryz.prog.cellsOf 5 = 1 := by kernel_rfl

/-- What the rows list. -/
def seatLaid : List (String × DataW Unit) := [("unicode/utf8.acceptRanges", Rows.laid_unicode_utf8_acceptRanges), ("folio/value.plain", Rows.laid_folio_value_plain), ("unicode/utf8.first", Rows.laid_unicode_utf8_first)]

theorem gPlain : Tryz.prog.globalNamed "folio/value.plain" = some 1 := by kernel_rfl
theorem tPlain : (Tryz.prog.globals[1]?).map (·.type) = some 131 := by kernel_rfl
theorem uPair : Tryz.prog.underlying 130 = some (.array 2 5) := by kernel_rfl
theorem cPair : Tryz.prog.cellsOf 130 = 2 := by kernel_rfl
theorem cPlain : Tryz.prog.cellsOf 131 = 26 := by kernel_rfl

def plainLits : List (Int × Int) := [(97, 122), (65, 90), (48, 57), (45, 45), (46, 46), (95, 95), (124, 124), (42, 42), (64, 64), (47, 47), (58, 58), (43, 43), (44, 44)]

theorem plain_data : (Rows.laid_folio_value_plain : DataW Unit) = .agg (plainLits.map fun p => .agg [.lit (.int .u8 p.1), .lit (.int .u8 p.2)]) := rfl

theorem one_byte_read {W : World} {f : Nat} {cs : List Value} {k : Int} {q : List MemPlace} (h : DataW.trod (fun _ => ()) Tryz.prog W 0 (fun _ => true) false f 5 cs = some (.lit (.int .u8 k), q)) : cs = [.int .u8 k] := by
  obtain ⟨n, rfl, e, _⟩ := DataW.trod_int Tryz.underlying5 h
  cases e
  rfl

theorem pair_cells {W : World} {f : Nat} {cs : List Value} {a b : Int} {q : List MemPlace} (hl : cs.length = 2) (h : DataW.trod (fun _ => ()) Tryz.prog W 0 (fun _ => true) false f 130 cs = some (.agg [.lit (.int .u8 a), .lit (.int .u8 b)], q)) : cs = [.int .u8 a, .int .u8 b] := by
  match cs, hl with
  | [x, y], _ =>
    obtain ⟨f0, d0, q0, e0, h0⟩ := array_elem uPair h 0 (by decide)
    obtain ⟨f1, d1, q1, e1, h1⟩ := array_elem uPair h 1 (by decide)
    rw [Tryz.cellsByte] at h0 h1
    simp only [List.getElem?_cons_zero, List.getElem?_cons_succ, Option.some.injEq] at e0 e1
    subst e0 e1
    have k0 := one_byte_read h0
    have k1 := one_byte_read h1
    simp at k0 k1
    rw [k0, k1]

theorem list_pairs : ∀ (n : Nat) (cs : List Value) (ps : List (Int × Int)), cs.length = n * 2 → ps.length = n → (∀ i (h : i < ps.length), (cs.drop (i * 2)).take 2 = [.int .u8 ps[i].1, .int .u8 ps[i].2]) → cs = ps.flatMap fun p => [.int .u8 p.1, .int .u8 p.2]
  | 0, cs, ps, hc, hp, _ => by
    rw [List.length_eq_zero_iff.1 (by omega : cs.length = 0), List.length_eq_zero_iff.1 hp]
    rfl
  | n + 1, cs, ps, hc, hp, h => by
    match ps, hp, cs, hc with
    | _ :: _, _, [], hc => simp at hc
    | _ :: _, _, [_], hc => simp at hc; omega
    | p :: ps, hp, x :: y :: cs, hc =>
      have h0 := h 0 (by simp)
      simp at h0
      have := list_pairs n cs ps (by simp at hc; omega) (by simpa using hp) (fun i hi => by
        have := h (i + 1) (by simp; omega)
        rw [show (i + 1) * 2 = i * 2 + 1 + 1 by omega] at this
        simpa using this)
      rw [List.flatMap_cons, ← this, h0.1, h0.2]
      rfl

theorem plain_of_laid {W : World} (h : laidMetH Tryz.prog seatLaid W) : PlainAt W := by
  rw [MakeChecks.laidMetH_plain _ _ _ (by kernel_rfl)] at h
  obtain ⟨g, t, cs, fuel, p, hg, ht, hv, hd⟩ := laidMet.reads h (n := "folio/value.plain") (d := Rows.laid_folio_value_plain) (.tail _ (.head _))
  obtain rfl := Option.some.inj (gPlain.symm.trans hg)
  obtain rfl := Option.some.inj (tPlain.symm.trans ht)
  rw [plain_data] at hd
  obtain ⟨_, _, _, _, hlen, _, _⟩ := DataW.trod_array Tryz.underlying131 hd
  rw [cPlain] at hlen
  have hcs := list_pairs 13 cs.toList plainLits (by simpa using hlen) rfl (fun i hi => by
    have hi13 : i < 13 := hi
    obtain ⟨f, d, q, e, hx⟩ := array_elem Tryz.underlying131 hd i hi13
    rw [cPair] at hx
    rw [List.getElem?_map, List.getElem?_eq_getElem hi] at e
    simp only [Option.map_some, Option.some.injEq] at e
    subst e
    exact pair_cells (by rw [List.length_take, List.length_drop]; rw [hlen]; omega) hx)
  have hv' : W.var? Tryz.prog "folio/value.plain" = some cs := hv
  simp only [World.var?, hg, Option.bind_some] at hv'
  split at hv'
  · rename_i c t' fr hh
    cases hv'
    refine ⟨t', fr, ?_⟩
    rw [hh]
    have : cs = plainCells := Array.toList_inj.1 (by rw [hcs]; rfl)
    rw [this]
  · cases hv'

/-- A slice of texts that came in. -/
theorem open_txt {H : Type} {enc : TypeId × Value → H} {W : World} {f : Nat} {v : Value} {x : DataW H × List MemPlace} (h : DataW.trod enc Tryz.prog W 0 (fun _ => true) true f 41 [v] = some x) :
    ∃ p cap, ∃ ts : List ByteArray, v = .slice p ts.length cap ∧ TxtAt W p ts ∧ FitT ts := by
  rcases open_strings Tryz.underlying41 Tryz.underlying9 Tryz.cellsStr h with ⟨hcs, _⟩ | ⟨a, l, c, ss, hcs, _, hl, hm, hz, _, hcell, hws⟩
  · simp at hcs
    exact ⟨none, 0, [], hcs, Or.inl rfl, by unfold maxLen; simp, fun t ht => by simp at ht⟩
  · simp at hcs
    have hz' : ss.length = c := by simpa using hz
    have hlen : (ss.take l).length = l := by rw [List.length_take]; omega
    refine ⟨some a, c, ss.take l, by rw [hlen]; exact hcs, ?_, by omega, fun t ht => hws t (List.mem_of_mem_take ht)⟩
    by_cases h0 : l = 0
    · subst h0; exact Or.inl rfl
    · right
      have hc0 := hcell 0 (by omega)
      obtain ⟨b, off, spot⟩ := a
      have hspot : spot = none := by simpa [Addr.add] using World.cell?_spot hc0
      subst hspot
      refine ⟨b, off, rfl, fun i hi => ?_⟩
      rw [hlen] at hi
      have := hcell i (by omega)
      rw [addr_add] at this
      rw [this, List.getElem_take, List.getD_eq_getElem?_getD, List.getElem?_eq_getElem (by omega)]
      rfl

set_option maxRecDepth 100000 in
/-- A slice of fields that came in. -/
theorem open_fields {H : Type} {enc : TypeId × Value → H} {W : World} {b0 : Nat} {v : Value} {dd : DataW H} {p : List MemPlace}
    (hv : Value.okWide Tryz.prog W .any b0 31 v) (h : DataW.Trod enc Tryz.prog W 0 (fun _ => true) true 31 v dd p) : ∃ d : List Fx, IsXs W v d ∧ FitX d := by
  obtain ⟨a0, len, cap, rfl⟩ := okWide_slice Tryz.underlying31 hv
  obtain ⟨fuel, hf⟩ := h
  rcases open_slice_pairs Tryz.underlying31 Tryz.underlying43 Tryz.cellsFld rfl rfl Tryz.cellsStr Tryz.cellsStrs hf with ⟨hcs, _⟩ | ⟨a, l, c, m, n, V0, V1, D0, D1, P0, P1, hcs, _, hl, hm, hmm, hdat, hall⟩
  · simp [Value.cells] at hcs
    obtain ⟨rfl, rfl, rfl⟩ := hcs
    exact ⟨[], ⟨none, 0, rfl, Or.inl rfl, fun x hx => by simp at hx⟩, by unfold maxLen; simp, fun x hx => by simp at hx⟩
  · simp [Value.cells] at hcs
    obtain ⟨rfl, rfl, rfl⟩ := hcs
    have hm' : m = cap := by simpa using hmm
    subst hm'
    have each : ∀ i, i < m → ∃ x : Fx, V0 i = .string x.name ∧ V1 i = x.sl ∧ TxtAt W x.p x.txt ∧ FitF x.fld := by
      intro i hi
      obtain ⟨_, _, h3, h4⟩ := hall i hi
      obtain ⟨s, e0, _, hs⟩ := DataW.trod_string Tryz.underlying9 h3
      simp only [List.cons.injEq, and_true] at e0
      obtain ⟨q, cc, ts, e1, ht, hft⟩ := open_txt h4
      exact ⟨⟨s, q, cc, ts⟩, e0, e1, ht, hs, hft⟩
    by_cases h0 : len = 0
    · subst h0
      exact ⟨[], ⟨_, _, rfl, Or.inl rfl, fun x hx => by simp at hx⟩, by unfold maxLen; simp, fun x hx => by simp at hx⟩
    · have hc0 := (hall 0 (by omega)).1
      obtain ⟨b, off, spot⟩ := a
      have hspot : spot = none := by simpa [Addr.add] using World.cell?_spot hc0
      subst hspot
      let f : Nat → Fx := fun i => if h : i < m then (each i h).choose else default
      have fs : ∀ i (h : i < m), V0 i = .string (f i).name ∧ V1 i = (f i).sl ∧ TxtAt W (f i).p (f i).txt ∧ FitF (f i).fld := fun i h => by
        have e : f i = (each i h).choose := dif_pos h
        rw [e]
        exact (each i h).choose_spec
      have hlen : ((List.range len).map f).length = len := by simp
      refine ⟨(List.range len).map f, ⟨_, m, by rw [hlen], Or.inr ⟨b, off, rfl, fun i hi => ?_⟩, fun x hx => ?_⟩, by rw [hlen]; omega, fun x hx => ?_⟩
      · have hi0 : i < len := by simpa using hi
        obtain ⟨h1, h2, _, _⟩ := hall i (by omega)
        obtain ⟨g1, g2, _⟩ := fs i (by omega)
        rw [addr_add] at h1 h2
        have ef : ((List.range len).map f)[i]'hi = f i := by simp
        rw [ef, h1, ← g1]
        refine ⟨rfl, ?_⟩
        rw [Nat.add_assoc, h2, g2]
      · obtain ⟨i, hi, rfl⟩ := List.mem_map.1 hx
        exact (fs i (by have := List.mem_range.1 hi; omega)).2.2.1
      · obtain ⟨i, hi, rfl⟩ := List.mem_map.1 hx
        exact (fs i (by have := List.mem_range.1 hi; omega)).2.2.2

set_option maxRecDepth 100000 in
/-- A slice of bytes that came in. -/
theorem open_bytes {H : Type} {enc : TypeId × Value → H} {W : World} {b0 : Nat} {v : Value} {dd : DataW H} {p : List MemPlace}
    (hv : Value.okWide Tryz.prog W .any b0 78 v) (h : DataW.Trod enc Tryz.prog W 0 (fun _ => true) true 78 v dd p) : ∃ l : List UInt8, RestAt W.heap.size W v l := by
  obtain ⟨a0, len, cap, rfl⟩ := okWide_slice Tryz.underlying78 hv
  obtain ⟨fuel, hf⟩ := h
  rcases open_ints Tryz.underlying78 Tryz.underlying5 Tryz.cellsByte hf with ⟨hcs, _⟩ | ⟨a, l, c, zs, hcs, _, hl, hm, hz, _, hcell, hws⟩
  · simp [Value.cells] at hcs
    obtain ⟨rfl, rfl, rfl⟩ := hcs
    exact ⟨[], none, 0, rfl, by simp, by unfold maxLen; omega, Or.inl rfl⟩
  · simp [Value.cells] at hcs
    obtain ⟨rfl, rfl, rfl⟩ := hcs
    have hz' : zs.length = cap := by simpa using hz
    have hlen : ((zs.take len).map fun z => UInt8.ofNat z.toNat).length = len := by rw [List.length_map, List.length_take]; omega
    refine ⟨(zs.take len).map fun z => UInt8.ofNat z.toNat, some a, cap, by rw [hlen], by rw [hlen]; exact hl, hm, ?_⟩
    by_cases h0 : len = 0
    · subst h0; exact Or.inl (by simp)
    · right
      have hc0 := hcell 0 (by omega)
      obtain ⟨b, off, spot⟩ := a
      have hspot : spot = none := by simpa [Addr.add] using World.cell?_spot hc0
      subst hspot
      refine ⟨b, off, rfl, ?_, fun i hi => ?_⟩
      · have := cell_block hc0
        simpa [Addr.add] using this
      · rw [hlen] at hi
        have := hcell i (by omega)
        rw [addr_add, List.getD_eq_getElem?_getD, List.getElem?_eq_getElem (by omega)] at this
        rw [this]
        have hw := hws _ (List.getElem_mem (show i < zs.length by omega))
        have hb : 0 ≤ zs[i] ∧ zs[i] ≤ 255 := by simpa [Lit.wf, IntKind.min, IntKind.max, IntKind.signed, IntKind.bits] using hw
        simp
        omega

end Go.Proofs.YtfcjnoojcajljaaGreatDoor

/-
  What the bound of a second form gives: how great an argument can be.
-/
namespace Go.Proofs.YtfcjnoojcajljaaGreatDoor
open Go.ChangeShapes Go.WideShapes Go.ChangeAt Go.RowKit Go.Lib Go.Deep

theorem bulk_pos {H : Type} (d : DataW H) : 1 ≤ Rows.uptoBulk d := by
  cases d with
  | lit l => cases l <;> simp [Rows.uptoBulk]
  | nil => simp [Rows.uptoBulk]
  | ptr d => simp [Rows.uptoBulk]
  | slice elems spare => simp [Rows.uptoBulk]
  | agg parts => simp [Rows.uptoBulk]
  | iface t d => simp [Rows.uptoBulk]
  | map entries => simp [Rows.uptoBulk]
  | held h => simp [Rows.uptoBulk]

theorem bulk_sum {H : Type} (l : List (DataW H)) : Rows.uptoBulkAll l = (l.map Rows.uptoBulk).sum := by
  induction l with
  | nil => simp [Rows.uptoBulkAll]
  | cons x r ih => simp [Rows.uptoBulkAll, ih]

theorem bulk_mem {H : Type} {d : DataW H} {l : List (DataW H)} (h : d ∈ l) : Rows.uptoBulk d ≤ Rows.uptoBulkAll l := by
  induction l with
  | nil => cases h
  | cons x r ih =>
    simp only [Rows.uptoBulkAll]
    rcases List.mem_cons.1 h with rfl | h
    · omega
    · have := ih h; omega

theorem bulk_len {H : Type} (l : List (DataW H)) : l.length ≤ Rows.uptoBulkAll l := by
  induction l with
  | nil => simp [Rows.uptoBulkAll]
  | cons x r ih => have := bulk_pos x; simp only [Rows.uptoBulkAll, List.length_cons]; omega

theorem bulk_small {H : Type} {l : List (DataW H)} (hk : Rows.uptoSmall H l = true) : Rows.uptoBulkAll l ≤ 1048576 := of_decide_eq_true hk

/-- A slice of texts that came in, and its bulk. -/
theorem open_txtU {H : Type} {enc : TypeId × Value → H} {W : World} {f : Nat} {v : Value} {x : DataW H × List MemPlace} (h : DataW.trod enc Tryz.prog W 0 (fun _ => true) true f 41 [v] = some x) :
    ∃ p cap, ∃ ts : List ByteArray, v = .slice p ts.length cap ∧ TxtAt W p ts ∧ FitT ts ∧ ts.length + 1 ≤ Rows.uptoBulk x.1 ∧ ∀ t ∈ ts, t.size ≤ Rows.uptoBulk x.1 := by
  rcases open_strings Tryz.underlying41 Tryz.underlying9 Tryz.cellsStr h with ⟨hcs, hx⟩ | ⟨a, l, c, ss, hcs, _, hl, hm, hz, hx, hcell, hws⟩
  · simp at hcs
    exact ⟨none, 0, [], hcs, Or.inl rfl, ⟨by unfold maxLen; simp, fun t ht => by simp at ht⟩, by rw [hx]; simp [Rows.uptoBulk], fun t ht => by simp at ht⟩
  · simp at hcs
    have hz' : ss.length = c := by simpa using hz
    have hlen : (ss.take l).length = l := by rw [List.length_take]; omega
    have hb1 := bulk_len (strs (ss.take l) : List (DataW H))
    have hb2 : (strs (ss.take l) : List (DataW H)).length = l := by rw [show (strs (ss.take l) : List (DataW H)).length = (ss.take l).length by simp [strs], hlen]
    refine ⟨some a, c, ss.take l, by rw [hlen]; exact hcs, ?_, ⟨by omega, fun t ht => hws t (List.mem_of_mem_take ht)⟩, ?_, fun t ht => ?_⟩
    · by_cases h0 : l = 0
      · subst h0; exact Or.inl rfl
      · right
        have hc0 := hcell 0 (by omega)
        obtain ⟨b, off, spot⟩ := a
        have hspot : spot = none := by simpa [Addr.add] using World.cell?_spot hc0
        subst hspot
        refine ⟨b, off, rfl, fun i hi => ?_⟩
        rw [hlen] at hi
        have := hcell i (by omega)
        rw [addr_add] at this
        rw [this, List.getElem_take, List.getD_eq_getElem?_getD, List.getElem?_eq_getElem (by omega)]
        rfl
    · rw [hx, hlen]
      simp only [Rows.uptoBulk]
      omega
    · rw [hx]
      simp only [Rows.uptoBulk]
      have hm' : (DataW.lit (.string t.data.toList) : DataW H) ∈ strs (ss.take l) := by
        unfold strs
        exact List.mem_map.2 ⟨t, ht, rfl⟩
      have := bulk_mem hm'
      simp only [Rows.uptoBulk] at this
      have e : t.data.toList.length = t.size := by simp
      omega

end Go.Proofs.YtfcjnoojcajljaaGreatDoor

/-
  A slice of terms that came in, and its bulk.
-/
namespace Go.Proofs.YtfcjnoojcajljaaGreatDoor
open Go.ChangeShapes Go.WideShapes Go.ChangeAt Go.RowKit Go.Lib Go.Deep

theorem Tryz.cellsTm : Tryz.prog.cellsOf 39 = 3 := by kernel_rfl
theorem Tryz.cellsNum : Tryz.prog.cellsOf 3 = 1 := by kernel_rfl

set_option maxRecDepth 100000 in
/-- One term, from its three cells. -/
theorem open_term {H : Type} {enc : TypeId × Value → H} {W : World} {n : Nat} {cs : List Value} {x : DataW H × List MemPlace} (h : DataW.trod enc Tryz.prog W 0 (fun _ => true) true n 39 cs = some x) :
    ∃ t : Tm, cs = encM t ∧ t.1.size ≤ maxLen ∧ t.2.2.size ≤ maxLen ∧ -9223372036854775808 ≤ t.2.1 ∧ t.2.1 ≤ 9223372036854775807 := by
  obtain ⟨xs, k, _, _, hlen, hxl, hf⟩ := DataW.trod_struct Tryz.underlying39 h
  rw [Tryz.cellsTm] at hlen
  match cs, hlen with
  | [v0, v1, v2], _ =>
    match xs, hxl with
    | [y0, y1, y2], _ =>
      have g0 := hf 0 _ rfl
      have g1 := hf 1 _ rfl
      have g2 := hf 2 _ rfl
      simp [Tryz.cellsStr, Tryz.cellsNum] at g0 g1 g2
      obtain ⟨a, ea, _, ha⟩ := DataW.trod_string Tryz.underlying9 g0
      obtain ⟨o, eo, _, ho⟩ := DataW.trod_int Tryz.underlying3 g1
      obtain ⟨b, eb, _, hb⟩ := DataW.trod_string Tryz.underlying9 g2
      simp only [List.cons.injEq, and_true] at ea eo eb
      have hw : -9223372036854775808 ≤ o ∧ o ≤ 9223372036854775807 := by
        have := ho
        simp [Lit.wf, IntKind.min, IntKind.max, IntKind.signed, IntKind.bits] at this
        omega
      exact ⟨(a, o, b), by rw [ea, eo, eb]; rfl, ha, hb, hw.1, hw.2⟩

set_option maxRecDepth 100000 in
theorem open_terms {H : Type} {enc : TypeId × Value → H} {W : World} {b0 : Nat} {v : Value} {dd : DataW H} {p : List MemPlace}
    (hv : Value.okWide Tryz.prog W .any b0 22 v) (h : DataW.Trod enc Tryz.prog W 0 (fun _ => true) true 22 v dd p) :
    ∃ q : List Tm, KM.Is W v q ∧ FitM q ∧ q.length ≤ Rows.uptoBulk dd ∧ (q = [] ∨ ∃ es sp, dd = .slice es sp ∧ es.length = q.length) := by
  obtain ⟨a0, len, cap, rfl⟩ := okWide_slice Tryz.underlying22 hv
  obtain ⟨fuel, hf⟩ := h
  rcases open_slice Tryz.underlying22 hf with ⟨hcs, _⟩ | ⟨a, l, c, m, n, D, Pl, hcs, _, hl, hm, hmm, hdat, hall⟩
  · simp [Value.cells] at hcs
    obtain ⟨rfl, rfl, rfl⟩ := hcs
    exact ⟨[], KM.is_nil W, ⟨by unfold maxLen; simp, fun x hx => by simp at hx⟩, Nat.zero_le _, Or.inl rfl⟩
  · simp [Value.cells] at hcs
    obtain ⟨rfl, rfl, rfl⟩ := hcs
    have hm' : m = cap := by simpa using hmm
    subst hm'
    rw [Tryz.cellsTm] at hall
    have hdd : dd = .slice ((List.range len).map D) ((List.range (m - len)).map fun j => D (len + j)) := congrArg Prod.fst hdat
    have hbk : len ≤ Rows.uptoBulk dd := by
      rw [hdd]
      simp only [Rows.uptoBulk]
      have := bulk_len ((List.range len).map D)
      simp only [List.length_map, List.length_range] at this
      omega
    have each : ∀ i, i < m → ∃ t : Tm, (∀ j u, (encM t)[j]? = some u → W.cell? (a.add (i * 3 + j)) = some u) ∧ t.1.size ≤ maxLen ∧ t.2.2.size ≤ maxLen ∧ -9223372036854775808 ≤ t.2.1 ∧ t.2.1 ≤ 9223372036854775807 := by
      intro i hi
      obtain ⟨cs', h1, h2⟩ := hall i hi
      obtain ⟨_, hlen, hcell⟩ := World.cells?_some h1
      obtain ⟨t, rfl, ht⟩ := open_term h2
      refine ⟨t, fun j u hu => ?_, ht⟩
      have hj : j < 3 := by
        have := (List.getElem?_eq_some_iff.1 hu).1
        exact this
      have := hcell j hj
      rw [add_add] at this
      rw [this]; exact hu
    by_cases h0 : len = 0
    · subst h0
      exact ⟨[], ⟨_, _, rfl, Or.inl rfl⟩, ⟨by unfold maxLen; simp, fun x hx => by simp at hx⟩, Nat.zero_le _, Or.inl rfl⟩
    · obtain ⟨f, hff⟩ := choose_lt each
      have hc0 := (hff 0 (by omega)).1 0 _ rfl
      obtain ⟨b, off, spot⟩ := a
      have hspot : spot = none := by simpa [Addr.add] using World.cell?_spot hc0
      subst hspot
      have hlen : ((List.range len).map f).length = len := by simp
      refine ⟨(List.range len).map f, ⟨_, m, by rw [hlen], Or.inr ⟨b, off, rfl, fun i hi j u hu => ?_⟩⟩, ⟨by rw [hlen]; omega, fun x hx => ?_⟩, by rw [hlen]; exact hbk, Or.inr ⟨_, _, hdd, by simp⟩⟩
      · have hi0 : i < len := by simpa using hi
        have ef : ((List.range len).map f)[i]'hi = f i := by simp
        rw [ef] at hu
        have := (hff i (by omega)).1 j u hu
        rw [addr_add] at this
        rw [Nat.add_assoc]
        exact this
      · obtain ⟨i, hi, rfl⟩ := List.mem_map.1 hx
        exact (hff i (by have := List.mem_range.1 hi; omega)).2

end Go.Proofs.YtfcjnoojcajljaaGreatDoor

/-
  A slice of fields that came in, and its bulk.
-/
namespace Go.Proofs.YtfcjnoojcajljaaGreatDoor
open Go.ChangeShapes Go.WideShapes Go.ChangeAt Go.RowKit Go.Lib Go.Deep

theorem sum_le_of {α : Type} (l : List α) (f g : α → Nat) (h : ∀ i ∈ l, f i ≤ g i) : (l.map f).sum ≤ (l.map g).sum := by
  induction l with
  | nil => simp
  | cons a l ih =>
    have h1 := h a (by simp)
    have h2 := ih fun i hi => h i (by simp [hi])
    simp only [List.map_cons, List.sum_cons]
    omega

theorem sum_add_of {α : Type} (l : List α) (f : α → Nat) : (l.map fun i => 1 + f i).sum = l.length + (l.map f).sum := by
  induction l with
  | nil => simp
  | cons a l ih => simp only [List.map_cons, List.sum_cons, List.length_cons, ih]; omega

set_option maxRecDepth 100000 in
theorem open_fieldsU {H : Type} {enc : TypeId × Value → H} {W : World} {b0 : Nat} {v : Value} {dd : DataW H} {p : List MemPlace}
    (hv : Value.okWide Tryz.prog W .any b0 31 v) (h : DataW.Trod enc Tryz.prog W 0 (fun _ => true) true 31 v dd p) : ∃ d : List Fx, IsXs W v d ∧ FitX d ∧ d.length + totF (d.map Fx.fld) ≤ Rows.uptoBulk dd := by
  obtain ⟨a0, len, cap, rfl⟩ := okWide_slice Tryz.underlying31 hv
  obtain ⟨fuel, hf⟩ := h
  rcases open_slice_pairs Tryz.underlying31 Tryz.underlying43 Tryz.cellsFld rfl rfl Tryz.cellsStr Tryz.cellsStrs hf with ⟨hcs, _⟩ | ⟨a, l, c, m, n, V0, V1, D0, D1, P0, P1, hcs, _, hl, hm, hmm, hdat, hall⟩
  · simp [Value.cells] at hcs
    obtain ⟨rfl, rfl, rfl⟩ := hcs
    exact ⟨[], ⟨none, 0, rfl, Or.inl rfl, fun x hx => by simp at hx⟩, ⟨by unfold maxLen; simp, fun x hx => by simp at hx⟩, by simp [totF]⟩
  · simp [Value.cells] at hcs
    obtain ⟨rfl, rfl, rfl⟩ := hcs
    have hm' : m = cap := by simpa using hmm
    subst hm'
    have each : ∀ i, i < m → ∃ x : Fx, V0 i = .string x.name ∧ V1 i = x.sl ∧ TxtAt W x.p x.txt ∧ FitF x.fld ∧ x.txt.length + 1 ≤ Rows.uptoBulk (D1 i) := by
      intro i hi
      obtain ⟨_, _, h3, h4⟩ := hall i hi
      obtain ⟨s, e0, _, hs⟩ := DataW.trod_string Tryz.underlying9 h3
      simp only [List.cons.injEq, and_true] at e0
      obtain ⟨q, cc, ts, e1, ht, hft, hbk, _⟩ := open_txtU h4
      exact ⟨⟨s, q, cc, ts⟩, e0, e1, ht, ⟨hs, hft⟩, hbk⟩
    have hdd : dd = .slice ((List.range len).map fun i => .agg [D0 i, D1 i]) ((List.range (m - len)).map fun j => .agg [D0 (len + j), D1 (len + j)]) := congrArg Prod.fst hdat
    have hbulk : ((List.range len).map fun i => Rows.uptoBulk (D1 i)).sum ≤ Rows.uptoBulk dd := by
      rw [hdd]
      simp only [Rows.uptoBulk, bulk_sum, List.map_map]
      refine Nat.le_trans (sum_le_of (List.range len) _ (Rows.uptoBulk ∘ fun i => DataW.agg [D0 i, D1 i]) fun i _ => ?_) (by omega)
      simp only [Function.comp, Rows.uptoBulk, Rows.uptoBulkAll]
      omega
    by_cases h0 : len = 0
    · subst h0
      exact ⟨[], ⟨_, _, rfl, Or.inl rfl, fun x hx => by simp at hx⟩, ⟨by unfold maxLen; simp, fun x hx => by simp at hx⟩, by simp [totF]⟩
    · have hc0 := (hall 0 (by omega)).1
      obtain ⟨b, off, spot⟩ := a
      have hspot : spot = none := by simpa [Addr.add] using World.cell?_spot hc0
      subst hspot
      let f : Nat → Fx := fun i => if h : i < m then (each i h).choose else default
      have fs : ∀ i (h : i < m), V0 i = .string (f i).name ∧ V1 i = (f i).sl ∧ TxtAt W (f i).p (f i).txt ∧ FitF (f i).fld ∧ (f i).txt.length + 1 ≤ Rows.uptoBulk (D1 i) := fun i h => by
        have e : f i = (each i h).choose := dif_pos h
        rw [e]
        exact (each i h).choose_spec
      have hlen : ((List.range len).map f).length = len := by simp
      refine ⟨(List.range len).map f, ⟨_, m, by rw [hlen], Or.inr ⟨b, off, rfl, fun i hi => ?_⟩, fun x hx => ?_⟩, ⟨by rw [hlen]; omega, fun x hx => ?_⟩, ?_⟩
      · have hi0 : i < len := by simpa using hi
        obtain ⟨h1, h2, _, _⟩ := hall i (by omega)
        obtain ⟨g1, g2, _⟩ := fs i (by omega)
        rw [addr_add] at h1 h2
        have ef : ((List.range len).map f)[i]'hi = f i := by simp
        rw [ef, h1, ← g1]
        refine ⟨rfl, ?_⟩
        rw [Nat.add_assoc, h2, g2]
      · obtain ⟨i, hi, rfl⟩ := List.mem_map.1 hx
        exact (fs i (by have := List.mem_range.1 hi; omega)).2.2.1
      · obtain ⟨i, hi, rfl⟩ := List.mem_map.1 hx
        exact (fs i (by have := List.mem_range.1 hi; omega)).2.2.2.1
      · refine Nat.le_trans ?_ hbulk
        have e1 : totF (((List.range len).map f).map Fx.fld) = ((List.range len).map fun i => (f i).txt.length).sum := by
          unfold totF
          rw [List.map_map, List.map_map]
          rfl
        have e2 := sum_add_of (List.range len) fun i => (f i).txt.length
        rw [e1, hlen]
        rw [List.length_range] at e2
        rw [← e2]
        refine sum_le_of _ _ _ fun i hi => ?_
        have := (fs i (by have := List.mem_range.1 hi; omega)).2.2.2.2
        omega

end Go.Proofs.YtfcjnoojcajljaaGreatDoor

/-
  The walk of PredMeans.
-/
namespace Go.Proofs.YtfcjnoojcajljaaGreatDoor
open Go.RowKit Go.Lib

theorem fitM_append {a b : List Tm} (ha : FitM a) (hb : FitM b) (h : a.length + b.length ≤ maxLen) : FitM (a ++ b) := by
  refine ⟨by rw [List.length_append]; exact h, fun x hx => ?_⟩
  rw [List.mem_append] at hx
  rcases hx with hx | hx
  · exact ha.2 x hx
  · exact hb.2 x hx

theorem own_made {N : Nat} (w : World) (h : N ≤ w.heap.size) : KM.Own N (w.alloc (.cells #[] 39)) (.slice (some ⟨w.heap.size, 0, none⟩) 0 0) [] :=
  World.ownsRow_lit w #[] 0 h (by decide) rfl

theorem fit_one {a t : ByteArray} {o : Int} (h1 : a.size ≤ maxLen) (h2 : t.size ≤ maxLen) (h3 : -9223372036854775808 ≤ o) (h4 : o ≤ 9223372036854775807) : FitM [(a, o, t)] :=
  ⟨by unfold maxLen; simp, fun x hx => by simp at hx; subst hx; exact ⟨h1, h2, h3, h4⟩⟩

/-- A predicate of one term, as a literal. -/
theorem lit_one {w W : World} {g : Nat} {a t : ByteArray} {o : Int} (h : W.heap[g]? = some (.cells #[.string a, .int .i64 o, .string t] 39 (0, 0))) (_ : Below w.heap.size w W) : KM.Is W (.slice (some ⟨g, 0, none⟩) 1 1) [(a, o, t)] := lit_terms h rfl rfl

set_option maxHeartbeats 16000000 in
set_option maxRecDepth 100000 in
theorem pmeans_any (v u y : Value) (p q : List Tm) (d : List Fx) (w : World) (hp : PlainAt w) (hv : KM.Is w v p) (hu : KM.Is w u q) (hfp : FitM p) (hfq : FitM q) (hy : IsXs w y d) (hfd : FitX d) (h16 : ∀ x ∈ d, x.txt.length * 16 ≤ 140737488355328) (hl : p.length + q.length ≤ 2000000) :
    Calls Tryz.prog 7 #[v, u, y] w fun e w' => e = .returned (.bool true) ∧ Below w.heap.size w w' := by
  obtain ⟨j0, hj0, hy0, hy1, hy2⟩ := info_parts Tryz.infoTrm
  have HJ := hid hj0
  have HP := hid hp
  have HV := hid hv
  have HU := hid hu
  have HFP := hid hfp
  have HFQ := hid hfq
  have HY := hid hy
  have HFD := hid hfd
  have H16 := hid h16
  have hfb : FitM (p ++ q) := fitM_append hfp hfq (by unfold maxLen; omega)
  have HFB := hid hfb
  have HM : Hid (∀ (x : Value) (r : List Tm) (W : World), Below w.heap.size w W → KM.Is W x r → FitM r → Calls Tryz.prog 18 #[x, y] W fun e w' => e = .returned (.bool (matchM r (d.map Fx.fld))) ∧ Below W.heap.size W w') := fun x r W hb hx hr => pmatch_any x y r d W hx hr (HY.out.kept hb) HFD.out H16.out
  clear hj0 hp hv hu hfp hfq hy hfd h16 hfb
  obtain ⟨pa, ca, rfl, hda⟩ := HV.out
  obtain ⟨pb, cb, rfl, hdb⟩ := HU.out
  have KSA : Hid (∀ W, Below w.heap.size w W → p.length = 0 ∨ ∃ ad, pa = some ad ∧ ∀ j u, (KM.cells p)[j]? = some u → W.cell? (ad.add j) = some u) := fun W hW => Kind.src (by
    rcases hda with h | ⟨b, off, h1, h2⟩
    · exact Or.inl h
    · exact Or.inr ⟨b, off, h1, Kind.at_kept h2 hW⟩)
  have KSB : Hid (∀ W, Below w.heap.size w W → q.length = 0 ∨ ∃ ad, pb = some ad ∧ ∀ j u, (KM.cells q)[j]? = some u → W.cell? (ad.add j) = some u) := fun W hW => Kind.src (by
    rcases hdb with h | ⟨b, off, h1, h2⟩
    · exact Or.inl h
    · exact Or.inr ⟨b, off, h1, Kind.at_kept h2 hW⟩)
  clear hda hdb
  go_enter Tryz.func7, Tryz.ntmps7
  go_upto_region 4 with (first
    | (go_at_call 9; refine (said.fixed _ HP.out).mono ?_; rintro e w1 ⟨rfl, q1⟩; have hw1 := q1.size; have qa := q1.alloc hw1 (.cells #[] 39); have HN0 := hid (own_made (N := w.heap.size) w1 hw1); unfold Kind.Own at HN0)
    | (at_builtin; refine wpList_append_rows _ rfl _ _ 22 rfl w.heap.size 39 j0 (.agg #[.string ⟨#[]⟩, .int .i64 0, .string ⟨#[]⟩]) 3 40 Tryz.underlying22 HJ.out hy0 hy1 hy2 rfl (by decide) _ _ _ rfl HN0.out pa p.length ca (KM.cells p) rfl (KM.cells_len p) (KSA.out _ qa) (KM.cells_ones _) (by unfold maxLen; simp; omega) (by simp; omega) (by simp; omega) ?_; intro v2 w2 hown2 hg2; have hb2 : Below w.heap.size w w2 := qa.grown hg2 (by simp; omega) (fun k hk => (World.ownsRow.lt HN0.out k hk).1); have hw2 := hb2.size; have HO2 := hid hown2; have HB2 := hid hb2; clear hown2 hg2)
    | (at_builtin; refine wpList_append_rows _ rfl _ _ 22 rfl w.heap.size 39 j0 (.agg #[.string ⟨#[]⟩, .int .i64 0, .string ⟨#[]⟩]) 3 40 Tryz.underlying22 HJ.out hy0 hy1 hy2 rfl (by decide) _ _ _ rfl HO2.out pb q.length cb (KM.cells q) rfl (KM.cells_len q) (KSB.out _ HB2.out) (KM.cells_ones _) (by unfold maxLen; simp; omega) (by simp; omega) hw2 ?_; intro v3 w3 hown3 hg3))
  have hob : KM.Own w.heap.size w3 v3 (p ++ q) := by
    show w3.ownsRow w.heap.size 39 3 v3 (p ++ q).length (KM.cells (p ++ q))
    rw [KM.cells_append, List.length_append]
    simpa [Kind.cells] using hown3
  have hb3 : Below w.heap.size w w3 := HB2.out.grown hg3 hw2 (fun k hk => (World.ownsRow.lt HO2.out k hk).1)
  have HB3 := hid hb3
  have HIS := hid (Kind.own_is hob)
  have hw3 := hb3.size
  clear hown3 hg3 hob hb3 HO2 HB2 HN0 q1 qa hb2 hw2 hw1
  have HMB : Hid (matchM (p ++ q) (d.map Fx.fld) = (matchM p (d.map Fx.fld) && matchM q (d.map Fx.fld))) := match_append p q _
  have HNV : Hid (neverM (p ++ q) = true → matchM (p ++ q) (d.map Fx.fld) = false) := fun h => never_not _ h
  have hlb : (p ++ q).length ≤ 2000000 := by rw [List.length_append]; exact hl
  obtain ⟨bo, hbo⟩ : ∃ bo, p ++ q = bo := ⟨_, rfl⟩
  rw [hbo] at HMB HNV HIS hlb HFB
  clear hbo
  obtain ⟨p3, c3, hv3, hd3⟩ := HIS.out
  subst hv3
  have HD3 := hid hd3
  obtain ⟨fs, hfs⟩ : ∃ fs, d.map Fx.fld = fs := ⟨_, rfl⟩
  rw [hfs] at HM HMB HNV
  clear hd3 hfs
  obtain ⟨A, hA⟩ : ∃ A, matchM p fs = A := ⟨_, rfl⟩
  obtain ⟨B, hB⟩ : ∃ B, matchM q fs = B := ⟨_, rfl⟩
  obtain ⟨N, hN⟩ : ∃ N, neverM bo = N := ⟨_, rfl⟩
  rw [hA, hB] at HMB
  rw [hN, HMB.out] at HNV
  have HC1 : Hid (∀ W, Below w3.heap.size w3 W → Calls Tryz.prog 18 #[.slice p3 bo.length c3, y] W fun e w' => e = .returned (.bool (A && B)) ∧ Below W.heap.size W w') := fun W h => by
    have := HM.out (.slice p3 bo.length c3) bo W (bel_then HB3.out hw3 h) (Kind.is_kept HIS.out h) HFB.out
    rwa [HMB.out] at this
  have HC2 : Hid (∀ W, Below w3.heap.size w3 W → Calls Tryz.prog 18 #[.slice pa p.length ca, y] W fun e w' => e = .returned (.bool A) ∧ Below W.heap.size W w') := fun W h => by
    have := HM.out _ p W (bel_then HB3.out hw3 h) (Kind.is_kept HV.out (bel_then HB3.out hw3 h)) HFP.out
    rwa [hA] at this
  have HC3 : Hid (∀ W, Below w3.heap.size w3 W → Calls Tryz.prog 18 #[.slice pb q.length cb, y] W fun e w' => e = .returned (.bool B) ∧ Below W.heap.size W w') := fun W h => by
    have := HM.out _ q W (bel_then HB3.out hw3 h) (Kind.is_kept HU.out (bel_then HB3.out hw3 h)) HFQ.out
    rwa [hB] at this
  have HC4 : Hid (∀ W, Below w3.heap.size w3 W → Calls Tryz.prog 16 #[.slice p3 bo.length c3] W fun e w' => e = .returned (.bool N) ∧ Below W.heap.size W w') := fun W h => by
    have := pnever_any _ bo W (Kind.is_kept HIS.out h) HFB.out (by omega)
    rwa [hN] at this
  have HC5 : Hid (∀ W, Below w3.heap.size w3 W → Calls Tryz.prog 18 #[.slice none 0 0, y] W fun e w' => e = .returned (.bool true) ∧ Below W.heap.size W w') := fun W h => HM.out (.slice none 0 0) [] W (bel_then HB3.out hw3 h) (KM.is_nil W) ⟨by unfold maxLen; simp, fun x hx => by simp at hx⟩
  have HA := hid hA
  clear hB hN hA
  go_cut [49] from 24 to 49 (fun v wx => v = .bool false ∧ Hid (Below w3.heap.size w3 wx))
  case first =>
    cases A with
    | false =>
      cases N with
      | false =>
        go_wp2_with fail
        refine (HC1.out w3 (Below.refl _ _)).mono ?_
        rintro e w4 ⟨rfl, q4⟩
        have b4 := q4
        go_wp2_with fail
        refine (HC2.out w4 b4).mono ?_
        rintro e w5 ⟨rfl, q5⟩
        have b5 := bel_then b4 b4.size q5
        go_wp2_with fail
        refine (HC4.out w5 b5).mono ?_
        rintro e w6 ⟨rfl, q6⟩
        have b6 := bel_then b5 b5.size q6
        go_wp2_with fail
        refine (HC5.out w6 b6).mono ?_
        rintro e w7 ⟨rfl, q7⟩
        have b7 := bel_then b6 b6.size q7
        go_wp2_with fail
        go_meet
        case rel => exact ⟨rfl, b7⟩
      | true =>
        go_wp2_with fail
        refine (HC1.out w3 (Below.refl _ _)).mono ?_
        rintro e w4 ⟨rfl, q4⟩
        have b4 := q4
        go_wp2_with fail
        refine (HC2.out w4 b4).mono ?_
        rintro e w5 ⟨rfl, q5⟩
        have b5 := bel_then b4 b4.size q5
        go_wp2_with fail
        refine (HC4.out w5 b5).mono ?_
        rintro e w6 ⟨rfl, q6⟩
        have b6 := bel_then b5 b5.size q6
        go_wp2_with fail
        refine (HC1.out w6 b6).mono ?_
        rintro e w7 ⟨rfl, q7⟩
        have b7 := bel_then b6 b6.size q7
        go_wp2_with fail
        refine (HC5.out w7 b7).mono ?_
        rintro e w8 ⟨rfl, q8⟩
        have b8 := bel_then b7 b7.size q8
        go_wp2_with fail
        go_meet
        case rel => exact ⟨rfl, b8⟩
    | true =>
      cases B with
      | false =>
        cases N with
        | false =>
          go_wp2_with fail
          refine (HC1.out w3 (Below.refl _ _)).mono ?_
          rintro e w4 ⟨rfl, q4⟩
          have b4 := q4
          go_wp2_with fail
          refine (HC2.out w4 b4).mono ?_
          rintro e w5 ⟨rfl, q5⟩
          have b5 := bel_then b4 b4.size q5
          go_wp2_with fail
          refine (HC3.out w5 b5).mono ?_
          rintro e w6 ⟨rfl, q6⟩
          have b6 := bel_then b5 b5.size q6
          go_wp2_with fail
          refine (HC4.out w6 b6).mono ?_
          rintro e w7 ⟨rfl, q7⟩
          have b7 := bel_then b6 b6.size q7
          go_wp2_with fail
          refine (HC5.out w7 b7).mono ?_
          rintro e w8 ⟨rfl, q8⟩
          have b8 := bel_then b7 b7.size q8
          go_wp2_with fail
          go_meet
          case rel => exact ⟨rfl, b8⟩
        | true =>
          go_wp2_with fail
          refine (HC1.out w3 (Below.refl _ _)).mono ?_
          rintro e w4 ⟨rfl, q4⟩
          have b4 := q4
          go_wp2_with fail
          refine (HC2.out w4 b4).mono ?_
          rintro e w5 ⟨rfl, q5⟩
          have b5 := bel_then b4 b4.size q5
          go_wp2_with fail
          refine (HC3.out w5 b5).mono ?_
          rintro e w6 ⟨rfl, q6⟩
          have b6 := bel_then b5 b5.size q6
          go_wp2_with fail
          refine (HC4.out w6 b6).mono ?_
          rintro e w7 ⟨rfl, q7⟩
          have b7 := bel_then b6 b6.size q7
          go_wp2_with fail
          refine (HC1.out w7 b7).mono ?_
          rintro e w8 ⟨rfl, q8⟩
          have b8 := bel_then b7 b7.size q8
          go_wp2_with fail
          refine (HC5.out w8 b8).mono ?_
          rintro e w9 ⟨rfl, q9⟩
          have b9 := bel_then b8 b8.size q9
          go_wp2_with fail
          go_meet
          case rel => exact ⟨rfl, b9⟩
      | true =>
        cases N with
        | true => exact absurd (HNV.out rfl) (by simp)
        | false =>
          go_wp2_with fail
          refine (HC1.out w3 (Below.refl _ _)).mono ?_
          rintro e w4 ⟨rfl, q4⟩
          have b4 := q4
          go_wp2_with fail
          refine (HC2.out w4 b4).mono ?_
          rintro e w5 ⟨rfl, q5⟩
          have b5 := bel_then b4 b4.size q5
          go_wp2_with fail
          refine (HC3.out w5 b5).mono ?_
          rintro e w6 ⟨rfl, q6⟩
          have b6 := bel_then b5 b5.size q6
          go_wp2_with fail
          refine (HC4.out w6 b6).mono ?_
          rintro e w7 ⟨rfl, q7⟩
          have b7 := bel_then b6 b6.size q7
          go_wp2_with fail
          refine (HC5.out w7 b7).mono ?_
          rintro e w8 ⟨rfl, q8⟩
          have b8 := bel_then b7 b7.size q8
          go_wp2_with fail
          go_meet
          case rel => exact ⟨rfl, b8⟩
  case rest =>
    obtain ⟨rfl, BC⟩ := hcut
    go_upto_region 7 with fail
    refine (pnorm_any _ p wc (Kind.is_kept HV.out (bel_then HB3.out hw3 BC.out)) HFP.out).mono ?_
    rintro e w4 ⟨⟨u4, he, o4⟩, q4⟩
    obtain ⟨p4, c4, hu4⟩ := Kind.own_shape o4
    subst hu4
    have B4 : Hid (Below w3.heap.size w3 w4) := bel_then BC.out BC.out.size q4
    have O4 := hid o4
    obtain ⟨M, hM⟩ : ∃ M, mayM p = M := ⟨_, rfl⟩
    rw [hM] at he
    have HMM := hid hM
    subst he
    clear hM o4 q4
    go_upto_region 7 with fail
    go_cut [65] from 55 to 65 (fun v wx => v = .bool false ∧ Hid (Below w3.heap.size w3 wx))
    case first =>
      by_cases h0 : M = 0
      · subst h0
        have HC6 : Hid (Calls Tryz.prog 18 #[.slice p4 (ansM p).length c4, y] w4 fun e w' => e = .returned (.bool A) ∧ Below w4.heap.size w4 w') := by
          show Calls _ _ _ _ _
          have := HM.out (.slice p4 (ansM p).length c4) (ansM p) w4 (bel_then HB3.out hw3 B4.out) (Kind.own_is O4.out) ⟨Nat.le_trans (ansM_len p) (by decide), fun x hx => by
            have h := (sortM_spec p).2 x
            have hx' : x ∈ p := by
              have e : ansM p = sortM p := by unfold ansM; rw [if_pos HMM.out]
              rw [e] at hx
              exact h.1 hx
            exact HFP.out.2 x hx'⟩
          rw [match_norm fs HMM.out, HA.out] at this
          exact this
        have hAA := bool_same A
        go_wp2_with fail
        refine HC6.out.mono ?_
        rintro e w5 ⟨rfl, q5⟩
        have b5 := bel_then B4.out B4.out.size q5
        go_wp2_with fail
        refine (HC2.out w5 b5).mono ?_
        rintro e w6 ⟨rfl, q6⟩
        have b6 := bel_then b5 b5.size q6
        go_wp2_with fail
        go_meet
        case rel => exact ⟨by simp, b6⟩
      · have hz : (M == 0) = false := by simpa using h0
        go_wp2_with fail
        go_meet
        case rel => exact ⟨rfl, B4.out⟩
    case rest =>
      obtain ⟨rfl, BD⟩ := hcut
      go_wp2_with fail
      clear HC1 HC2 HC3 HC4 HC5 HMB HNV HA HMM O4 B4 BC
      go_loopg [68] bo.length (fun g vi wr => ∃ i : Nat, vi = .int .i64 i ∧ i ≤ bo.length ∧ bo.length - i ≤ g ∧ Hid (Below w3.heap.size w3 wr))
      case atStart => exact ⟨0, rfl, by omega, by omega, BD⟩
      case round =>
        obtain ⟨i, rfl, hi, hg, BR⟩ := hrel
        by_cases hlt : i < bo.length
        · have hltz : (i : Int) < (bo.length : Int) := by omega
          have hiz : (0 : Int) ≤ i := by omega
          obtain ⟨b, off, rfl, hat⟩ : ∃ b off, p3 = some ⟨b, off, none⟩ ∧ KM.At w3 b off bo := by
            rcases HD3.out with h | h
            · rw [h] at hlt; simp at hlt
            · exact h
          obtain ⟨c0, c1, c2⟩ := km_cells (Kind.at_kept hat BR.out) i hlt
          have hfx := HFB.out.2 _ (List.getElem_mem hlt)
          obtain ⟨x, hx⟩ : ∃ x, bo[i] = x := ⟨_, rfl⟩
          rw [hx] at c0 c1 c2 hfx
          obtain ⟨xf, xo, xt⟩ := x
          simp only at c0 c1 c2 hfx
          have hszr := BR.out.size
          obtain ⟨W0, hW0⟩ : ∃ W0, wr.alloc (.cells #[.string xf, .int .i64 xo, .string xt] 39) = W0 := ⟨_, rfl⟩
          obtain ⟨F, hF⟩ : ∃ F, wr.heap.size = F := ⟨_, rfl⟩
          have hbox : BoxM W0 F (xf, xo, xt) := by rw [← hW0, ← hF]; exact boxM_new wr (xf, xo, xt)
          have hbW : Below w3.heap.size w3 W0 := by rw [← hW0]; exact BR.out.alloc hszr _
          have HBW := hid hbW
          have HBX := hid hbox
          have HL : Hid (∀ (o : Int) (t : ByteArray) (r : Bool), 0 ≤ o → o ≤ 7 → t.size ≤ maxLen → holdsM (xf, o, t) fs = r → ∀ (W : World) (g : Nat), Below W0.heap.size W0 W → W.heap[g]? = some (.cells #[.string xf, .int .i64 o, .string t] 39 (0, 0)) → Calls Tryz.prog 18 #[.slice (some ⟨g, 0, none⟩) 1 1, y] W fun e w' => e = .returned (.bool r) ∧ Below W.heap.size W w') := fun o t r h1 h2 h3 h4 W g h5 h6 => by
            have hbw := bel_then HB3.out hw3 (bel_then HBW.out HBW.out.size h5)
            have := HM.out (.slice (some ⟨g, 0, none⟩) 1 1) [(xf, o, t)] W hbw (lit_one h6 hbw) (fit_one hfx.1 h3 (by omega) (by omega))
            rwa [match_one, h4] at this
          obtain ⟨B1, hB1⟩ : ∃ B, holdsM (xf, 1, xt) fs = B := ⟨_, rfl⟩
          obtain ⟨B6, hB6⟩ : ∃ B, holdsM (xf, 6, ⟨#[]⟩) fs = B := ⟨_, rfl⟩
          have h2n : holdsM (xf, 2, xt) fs = !B1 := by rw [is_not, hB1]
          have h7n : holdsM (xf, 7, ⟨#[]⟩) fs = !B6 := by rw [has_lacks, hB6]
          have h3n : holdsM (xf, 3, ⟨#[]⟩) fs = B6 := by rw [begins_has, hB6]
          have h4n := below_empty xf fs
          have h16n : B1 = true → B6 = true := fun h => by rw [← hB6]; exact is_has (by rw [hB1]; exact h)
          have HL1 := hid (HL.out 1 xt B1 (by omega) (by omega) hfx.2.1 hB1)
          have HL2 := hid (HL.out 2 xt (!B1) (by omega) (by omega) hfx.2.1 h2n)
          have HL6 := hid (HL.out 6 ⟨#[]⟩ B6 (by omega) (by omega) (Nat.zero_le _) hB6)
          have HL7 := hid (HL.out 7 ⟨#[]⟩ (!B6) (by omega) (by omega) (Nat.zero_le _) h7n)
          have HL3 := hid (HL.out 3 ⟨#[]⟩ B6 (by omega) (by omega) (Nat.zero_le _) h3n)
          have HL4 := hid (HL.out 4 ⟨#[]⟩ false (by omega) (by omega) (Nat.zero_le _) h4n)
          have H16 := hid h16n
          have KS : Hid (∀ W, Below W0.heap.size W0 W → W.cell? ⟨F, 0, none⟩ = some (.string xf) ∧ W.cell? ⟨F, 2, none⟩ = some (.string xt)) := fun W h => ⟨(HBX.out.on h).cells.1, (HBX.out.on h).cells.2.2⟩
          clear hat hx hfx hbox hbW hB1 hB6 h2n h7n h3n h4n h16n
          go_upto_region 12 with fail
          go_cut [12, 13] from 69 to 134 (fun a b wx => a = .bool B1 ∧ b = .bool (!B1) ∧ Hid (Below W0.heap.size W0 wx))
          case first =>
            have nV0 : Below W0.heap.size W0 W0 := Below.refl _ W0
            have qV := KS.out _ nV0.drew
            have nA0 := nV0.alloc nV0.size (.cells #[.string xf, .int .i64 1, .string xt] 39)
            have nA20 := nV0.alloc nV0.size (.cells #[.string xf, .int .i64 2, .string xt] 39)
            have nA := nA0.drew
            have qA := KS.out _ nA
            have qA2 := KS.out _ nA20.drew
            have nB := (nA0.alloc nA0.size (.cells #[.string xf, .int .i64 2, .string xt] 39)).drew
            have qB := KS.out _ nB
            have nC := (nA20.alloc nA20.size (.cells #[.string xf, .int .i64 1, .string xt] 39)).drew
            have qC := KS.out _ nC
            have lA : (W0.alloc (.cells #[.string xf, .int .i64 1, .string xt] 39)).drew.heap[W0.heap.size]? = some (.cells #[.string xf, .int .i64 1, .string xt] 39 (0, 0)) := heap_alloc_new W0 _
            have lB : ((W0.alloc (.cells #[.string xf, .int .i64 1, .string xt] 39)).alloc (.cells #[.string xf, .int .i64 2, .string xt] 39)).drew.heap[W0.heap.size]? = some (.cells #[.string xf, .int .i64 1, .string xt] 39 (0, 0)) := (Below.heap_alloc (W0.alloc (.cells #[.string xf, .int .i64 1, .string xt] 39)) _ _ (by simp)).trans lA
            have lC : ((W0.alloc (.cells #[.string xf, .int .i64 2, .string xt] 39)).alloc (.cells #[.string xf, .int .i64 1, .string xt] 39)).drew.heap[W0.heap.size + 1]? = some (.cells #[.string xf, .int .i64 1, .string xt] 39 (0, 0)) := by have h := heap_alloc_new (W0.alloc (.cells #[.string xf, .int .i64 2, .string xt] 39)) (.cells #[.string xf, .int .i64 1, .string xt] 39); rw [World.size_alloc] at h; exact h
            have mB : ((W0.alloc (.cells #[.string xf, .int .i64 1, .string xt] 39)).alloc (.cells #[.string xf, .int .i64 2, .string xt] 39)).drew.heap[W0.heap.size + 1]? = some (.cells #[.string xf, .int .i64 2, .string xt] 39 (0, 0)) := by have h := heap_alloc_new (W0.alloc (.cells #[.string xf, .int .i64 1, .string xt] 39)) (.cells #[.string xf, .int .i64 2, .string xt] 39); rw [World.size_alloc] at h; exact h
            have mC : ((W0.alloc (.cells #[.string xf, .int .i64 2, .string xt] 39)).alloc (.cells #[.string xf, .int .i64 1, .string xt] 39)).drew.heap[W0.heap.size]? = some (.cells #[.string xf, .int .i64 2, .string xt] 39 (0, 0)) := (Below.heap_alloc (W0.alloc (.cells #[.string xf, .int .i64 2, .string xt] 39)) _ _ (by simp)).trans (heap_alloc_new W0 _)
            have sB := (Array.getElem?_eq_some_iff.1 mB).1
            have sC := (Array.getElem?_eq_some_iff.1 mC).1
            go_region_held3 (fun w' => w'.cell? ⟨F, 0, none⟩ = some (.string xf) ∧ w'.cell? ⟨F, 2, none⟩ = some (.string xt))
              (first | (with_reducible exact qV) | (with_reducible exact qA) | (with_reducible exact qA2) | (with_reducible exact qB) | (with_reducible exact qC) | (have hq := q5; with_reducible exact hq) | (have hq := q6; with_reducible exact hq) | (have hq := q7; with_reducible exact hq))
              (first
                | (go_at_call 18; with_reducible refine (HL1.out _ W0.heap.size nA lA).mono ?_; rintro e w5 ⟨rfl, hb5⟩; have n5 := bel_then nA nA.size hb5; have q5 := KS.out _ n5; have n6 := n5.alloc n5.size (.cells #[.string xf, .int .i64 2, .string xt] 39); have q6 := KS.out _ n6; have l6 := heap_alloc_new w5 (.cells #[.string xf, .int .i64 2, .string xt] 39))
                | (go_at_call 18; with_reducible refine (HL1.out _ W0.heap.size nB lB).mono ?_; rintro e w5 ⟨rfl, hb5⟩; have n5 := bel_then nB nB.size hb5; have q5 := KS.out _ n5; have k5 := (hb5.block _ sB).trans mB)
                | (go_at_call 18; with_reducible refine (HL1.out _ (W0.heap.size + 1) nC lC).mono ?_; rintro e w5 ⟨rfl, hb5⟩; have n5 := bel_then nC nC.size hb5; have q5 := KS.out _ n5; have k5 := (hb5.block _ sC).trans mC)
                | (have hl := l6; go_at_call 18; with_reducible refine (HL2.out _ w5.heap.size n6 hl).mono ?_; rintro e w7 ⟨rfl, hb7⟩; have n7 := bel_then n6 n6.size hb7; have q7 := KS.out _ n7)
                | (have hk := k5; go_at_call 18; with_reducible refine (HL2.out _ (W0.heap.size + 1) n5 hk).mono ?_; rintro e w7 ⟨rfl, hb7⟩; have n7 := bel_then n5 n5.size hb7; have q7 := KS.out _ n7)
                | (have hk := k5; go_at_call 18; with_reducible refine (HL2.out _ W0.heap.size n5 hk).mono ?_; rintro e w7 ⟨rfl, hb7⟩; have n7 := bel_then n5 n5.size hb7; have q7 := KS.out _ n7))
            all_goals
              go_wp2_with fail
              go_meet
              case rel => exact ⟨rfl, rfl, n7⟩
          case rest =>
            obtain ⟨rfl, rfl, N1⟩ := hcut
            obtain ⟨e0, e2⟩ := KS.out _ N1.out
            go_upto_region 13 with fail
            go_cut [14, 15] from 69 to 134 (fun a b wx => a = .bool B6 ∧ b = .bool (!B6) ∧ Hid (Below W0.heap.size W0 wx))
            case first =>
              have nV0 : Below W0.heap.size W0 wc := N1.out
              have qV := KS.out _ nV0.drew
              have nA0 := nV0.alloc nV0.size (.cells #[.string xf, .int .i64 6, .string ⟨#[]⟩] 39)
              have nA20 := nV0.alloc nV0.size (.cells #[.string xf, .int .i64 7, .string ⟨#[]⟩] 39)
              have nA := nA0.drew
              have qA := KS.out _ nA
              have qA2 := KS.out _ nA20.drew
              have nB := (nA0.alloc nA0.size (.cells #[.string xf, .int .i64 7, .string ⟨#[]⟩] 39)).drew
              have qB := KS.out _ nB
              have nC := (nA20.alloc nA20.size (.cells #[.string xf, .int .i64 6, .string ⟨#[]⟩] 39)).drew
              have qC := KS.out _ nC
              have lA : (wc.alloc (.cells #[.string xf, .int .i64 6, .string ⟨#[]⟩] 39)).drew.heap[wc.heap.size]? = some (.cells #[.string xf, .int .i64 6, .string ⟨#[]⟩] 39 (0, 0)) := heap_alloc_new wc _
              have lB : ((wc.alloc (.cells #[.string xf, .int .i64 6, .string ⟨#[]⟩] 39)).alloc (.cells #[.string xf, .int .i64 7, .string ⟨#[]⟩] 39)).drew.heap[wc.heap.size]? = some (.cells #[.string xf, .int .i64 6, .string ⟨#[]⟩] 39 (0, 0)) := (Below.heap_alloc (wc.alloc (.cells #[.string xf, .int .i64 6, .string ⟨#[]⟩] 39)) _ _ (by simp)).trans lA
              have lC : ((wc.alloc (.cells #[.string xf, .int .i64 7, .string ⟨#[]⟩] 39)).alloc (.cells #[.string xf, .int .i64 6, .string ⟨#[]⟩] 39)).drew.heap[wc.heap.size + 1]? = some (.cells #[.string xf, .int .i64 6, .string ⟨#[]⟩] 39 (0, 0)) := by have h := heap_alloc_new (wc.alloc (.cells #[.string xf, .int .i64 7, .string ⟨#[]⟩] 39)) (.cells #[.string xf, .int .i64 6, .string ⟨#[]⟩] 39); rw [World.size_alloc] at h; exact h
              have mB : ((wc.alloc (.cells #[.string xf, .int .i64 6, .string ⟨#[]⟩] 39)).alloc (.cells #[.string xf, .int .i64 7, .string ⟨#[]⟩] 39)).drew.heap[wc.heap.size + 1]? = some (.cells #[.string xf, .int .i64 7, .string ⟨#[]⟩] 39 (0, 0)) := by have h := heap_alloc_new (wc.alloc (.cells #[.string xf, .int .i64 6, .string ⟨#[]⟩] 39)) (.cells #[.string xf, .int .i64 7, .string ⟨#[]⟩] 39); rw [World.size_alloc] at h; exact h
              have mC : ((wc.alloc (.cells #[.string xf, .int .i64 7, .string ⟨#[]⟩] 39)).alloc (.cells #[.string xf, .int .i64 6, .string ⟨#[]⟩] 39)).drew.heap[wc.heap.size]? = some (.cells #[.string xf, .int .i64 7, .string ⟨#[]⟩] 39 (0, 0)) := (Below.heap_alloc (wc.alloc (.cells #[.string xf, .int .i64 7, .string ⟨#[]⟩] 39)) _ _ (by simp)).trans (heap_alloc_new wc _)
              have sB := (Array.getElem?_eq_some_iff.1 mB).1
              have sC := (Array.getElem?_eq_some_iff.1 mC).1
              go_region_held3 (fun w' => w'.cell? ⟨F, 0, none⟩ = some (.string xf) ∧ w'.cell? ⟨F, 2, none⟩ = some (.string xt))
                (first | (with_reducible exact qV) | (with_reducible exact qA) | (with_reducible exact qA2) | (with_reducible exact qB) | (with_reducible exact qC) | (have hq := q5; with_reducible exact hq) | (have hq := q6; with_reducible exact hq) | (have hq := q7; with_reducible exact hq))
                (first
                  | (go_at_call 18; with_reducible refine (HL6.out _ wc.heap.size nA lA).mono ?_; rintro e w5 ⟨rfl, hb5⟩; have n5 := bel_then nA nA.size hb5; have q5 := KS.out _ n5; have n6 := n5.alloc n5.size (.cells #[.string xf, .int .i64 7, .string ⟨#[]⟩] 39); have q6 := KS.out _ n6; have l6 := heap_alloc_new w5 (.cells #[.string xf, .int .i64 7, .string ⟨#[]⟩] 39))
                  | (go_at_call 18; with_reducible refine (HL6.out _ wc.heap.size nB lB).mono ?_; rintro e w5 ⟨rfl, hb5⟩; have n5 := bel_then nB nB.size hb5; have q5 := KS.out _ n5; have k5 := (hb5.block _ sB).trans mB)
                  | (go_at_call 18; with_reducible refine (HL6.out _ (wc.heap.size + 1) nC lC).mono ?_; rintro e w5 ⟨rfl, hb5⟩; have n5 := bel_then nC nC.size hb5; have q5 := KS.out _ n5; have k5 := (hb5.block _ sC).trans mC)
                  | (have hl := l6; go_at_call 18; with_reducible refine (HL7.out _ w5.heap.size n6 hl).mono ?_; rintro e w7 ⟨rfl, hb7⟩; have n7 := bel_then n6 n6.size hb7; have q7 := KS.out _ n7)
                  | (have hk := k5; go_at_call 18; with_reducible refine (HL7.out _ (wc.heap.size + 1) n5 hk).mono ?_; rintro e w7 ⟨rfl, hb7⟩; have n7 := bel_then n5 n5.size hb7; have q7 := KS.out _ n7)
                  | (have hk := k5; go_at_call 18; with_reducible refine (HL7.out _ wc.heap.size n5 hk).mono ?_; rintro e w7 ⟨rfl, hb7⟩; have n7 := bel_then n5 n5.size hb7; have q7 := KS.out _ n7))
              all_goals
                go_wp2_with fail
                go_meet
                case rel => exact ⟨rfl, rfl, n7⟩
            case rest =>
              obtain ⟨rfl, rfl, N2⟩ := hcut
              obtain ⟨f0, f2⟩ := KS.out _ N2.out
              clear e0 e2
              go_wp2_with fail
              refine (HL3.out _ _ (N2.out.alloc N2.out.size _) (heap_alloc_new _ _)).mono ?_
              rintro e w8 ⟨rfl, hb8⟩
              have n8 := bel_then (N2.out.alloc N2.out.size _) (N2.out.alloc N2.out.size _).size hb8
              obtain ⟨k0, k2⟩ := KS.out _ n8
              have N8 := hid n8
              clear n8 hb8 f0 f2
              cases B6 with
              | false =>
                cases B1 with
                | true => exact absurd (H16.out rfl) (by simp)
                | false =>
                  go_wp2_with fail
                  refine (HL4.out _ _ (N8.out.alloc N8.out.size _) (heap_alloc_new _ _)).mono ?_
                  rintro e w9 ⟨rfl, hb9⟩
                  have n9 := bel_then (N8.out.alloc N8.out.size _) (N8.out.alloc N8.out.size _).size hb9
                  go_wp2_with fail
                  go_roundg (bo.length - (i + 1))
                  case measure => omega
                  exact ⟨i + 1, by go_num, by omega, by omega, bel_then HBW.out HBW.out.size n9⟩
              | true =>
                cases B1 with
                | true =>
                  go_wp2_with fail
                  refine (HL4.out _ _ (N8.out.alloc N8.out.size _) (heap_alloc_new _ _)).mono ?_
                  rintro e w9 ⟨rfl, hb9⟩
                  have n9 := bel_then (N8.out.alloc N8.out.size _) (N8.out.alloc N8.out.size _).size hb9
                  go_wp2_with fail
                  go_roundg (bo.length - (i + 1))
                  case measure => omega
                  exact ⟨i + 1, by go_num, by omega, by omega, bel_then HBW.out HBW.out.size n9⟩
                | false =>
                  go_wp2_with fail
                  refine (HL4.out _ _ (N8.out.alloc N8.out.size _) (heap_alloc_new _ _)).mono ?_
                  rintro e w9 ⟨rfl, hb9⟩
                  have n9 := bel_then (N8.out.alloc N8.out.size _) (N8.out.alloc N8.out.size _).size hb9
                  go_wp2_with fail
                  go_roundg (bo.length - (i + 1))
                  case measure => omega
                  exact ⟨i + 1, by go_num, by omega, by omega, bel_then HBW.out HBW.out.size n9⟩
        · have hltz : ¬ (i : Int) < (bo.length : Int) := by omega
          go_wp2_with fail
          go_ret
          exact ⟨rfl, bel_then HB3.out hw3 BR.out⟩

end Go.Proofs.YtfcjnoojcajljaaGreatDoor
