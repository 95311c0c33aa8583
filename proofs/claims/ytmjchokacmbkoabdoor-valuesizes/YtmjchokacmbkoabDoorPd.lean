/-
  Texts of this claim, one behind the other: Bas Sze0 Sze.
-/
import Derived.Test.YtmjchokacmbkoabDoorRows
import Derived.Test.YtmjchokacmbkoabDoorPa
import Derived.MakeChecks
import Derived.ProofKit
import Derived.OpenShut
import Derived.Lay
import Derived.Stop.Joined
import Derived.SliceStrings
import Derived.Deep.SlicePairs
import Derived.Lib.LaidU8
import Derived.SizedLaws
import Derived.ChangeSlices
import Derived.Test.YtmjchokacmbkoabDoorPc
/-
  What each row's proof opens its arguments by, and what the laid variables give.
-/
namespace Go.Proofs.YtmjchokacmbkoabDoor
open Go.ChangeShapes Go.WideShapes Go.ChangeAt Go.RowKit Go.Lib Go.Deep

theorem Tryd.own : ownKnob Tryd.prog.godebug = none := by kernel_rfl
theorem Tryd.laidOut : laidOutB Tryd.prog = true := by kernel_rfl
theorem Tryd.cellsFld : Tryd.prog.cellsOf 30 = 2 := by kernel_rfl
theorem Tryd.cellsStr : Tryd.prog.cellsOf 9 = 1 := by kernel_rfl
theorem Tryd.cellsStrs : Tryd.prog.cellsOf 28 = 1 := by kernel_rfl
theorem Tryd.cellsByte : Tryd.prog.cellsOf 5 = 1 := by kernel_rfl

/-- What the rows list. -/
def seatLaid : List (String × DataW Unit) := [("unicode/utf8.acceptRanges", Rows.laid_unicode_utf8_acceptRanges), ("folio/value.plain", Rows.laid_folio_value_plain), ("unicode/utf8.first", Rows.laid_unicode_utf8_first)]

theorem gPlain : Tryd.prog.globalNamed "folio/value.plain" = some 0 := by kernel_rfl
theorem tPlain : (Tryd.prog.globals[0]?).map (·.type) = some 91 := by kernel_rfl
theorem uPair : Tryd.prog.underlying 90 = some (.array 2 5) := by kernel_rfl
theorem cPair : Tryd.prog.cellsOf 90 = 2 := by kernel_rfl
theorem cPlain : Tryd.prog.cellsOf 91 = 26 := by kernel_rfl

def plainLits : List (Int × Int) := [(97, 122), (65, 90), (48, 57), (45, 45), (46, 46), (95, 95), (124, 124), (42, 42), (64, 64), (47, 47), (58, 58), (43, 43), (44, 44)]

theorem plain_data : (Rows.laid_folio_value_plain : DataW Unit) = .agg (plainLits.map fun p => .agg [.lit (.int .u8 p.1), .lit (.int .u8 p.2)]) := rfl

theorem one_byte_read {W : World} {f : Nat} {cs : List Value} {k : Int} {q : List MemPlace} (h : DataW.trod (fun _ => ()) Tryd.prog W 0 (fun _ => true) false f 5 cs = some (.lit (.int .u8 k), q)) : cs = [.int .u8 k] := by
  obtain ⟨n, rfl, e, _⟩ := DataW.trod_int Tryd.underlying5 h
  cases e
  rfl

theorem pair_cells {W : World} {f : Nat} {cs : List Value} {a b : Int} {q : List MemPlace} (hl : cs.length = 2) (h : DataW.trod (fun _ => ()) Tryd.prog W 0 (fun _ => true) false f 90 cs = some (.agg [.lit (.int .u8 a), .lit (.int .u8 b)], q)) : cs = [.int .u8 a, .int .u8 b] := by
  match cs, hl with
  | [x, y], _ =>
    obtain ⟨f0, d0, q0, e0, h0⟩ := array_elem uPair h 0 (by decide)
    obtain ⟨f1, d1, q1, e1, h1⟩ := array_elem uPair h 1 (by decide)
    rw [Tryd.cellsByte] at h0 h1
    simp only [List.getElem?_cons_zero, List.getElem?_cons_succ, Option.some.injEq] at e0 e1
    subst e0 e1
    have k0 := one_byte_read h0
    have k1 := one_byte_read h1
    simp at k0 k1
    rw [k0, k1]

theorem list_pairs : ∀ (n : Nat) (cs : List Value) (ps : List (Int × Int)), cs.length = n * 2 → ps.length = n → (∀ i (h : i < ps.length), (cs.drop (i * 2)).take 2 = [.int .u8 ps[i].1, .int .u8 ps[i].2]) → cs = ps.flatMap fun p => [.int .u8 p.1, .int .u8 p.2]
  | 0, cs, ps, hc, hp, _ => by
    rw [List.length_eq_zero_iff.1 (by omega : cs.length = 0), List.length_eq_zero_iff.1 hp]
    rfl
  | n + 1, cs, ps, hc, hp, h => by
    match ps, hp, cs, hc with
    | _ :: _, _, [], hc => simp at hc
    | _ :: _, _, [_], hc => simp at hc; omega
    | p :: ps, hp, x :: y :: cs, hc =>
      have h0 := h 0 (by simp)
      simp at h0
      have := list_pairs n cs ps (by simp at hc; omega) (by simpa using hp) (fun i hi => by
        have := h (i + 1) (by simp; omega)
        rw [show (i + 1) * 2 = i * 2 + 1 + 1 by omega] at this
        simpa using this)
      rw [List.flatMap_cons, ← this, h0.1, h0.2]
      rfl

theorem plain_of_laid {W : World} (h : laidMetH Tryd.prog seatLaid W) : PlainAt W := by
  rw [MakeChecks.laidMetH_plain _ _ _ (by kernel_rfl)] at h
  obtain ⟨g, t, cs, fuel, p, hg, ht, hv, hd⟩ := laidMet.reads h (n := "folio/value.plain") (d := Rows.laid_folio_value_plain) (.tail _ (.head _))
  obtain rfl := Option.some.inj (gPlain.symm.trans hg)
  obtain rfl := Option.some.inj (tPlain.symm.trans ht)
  rw [plain_data] at hd
  obtain ⟨_, _, _, _, hlen, _, _⟩ := DataW.trod_array Tryd.underlying91 hd
  rw [cPlain] at hlen
  have hcs := list_pairs 13 cs.toList plainLits (by simpa using hlen) rfl (fun i hi => by
    have hi13 : i < 13 := hi
    obtain ⟨f, d, q, e, hx⟩ := array_elem Tryd.underlying91 hd i hi13
    rw [cPair] at hx
    rw [List.getElem?_map, List.getElem?_eq_getElem hi] at e
    simp only [Option.map_some, Option.some.injEq] at e
    subst e
    exact pair_cells (by rw [List.length_take, List.length_drop]; rw [hlen]; omega) hx)
  have hv' : W.var? Tryd.prog "folio/value.plain" = some cs := hv
  simp only [World.var?, hg, Option.bind_some] at hv'
  split at hv'
  · rename_i c t' fr hh
    cases hv'
    refine ⟨t', fr, ?_⟩
    rw [hh]
    have : cs = plainCells := Array.toList_inj.1 (by rw [hcs]; rfl)
    rw [this]
  · cases hv'

/-- A slice of texts that came in. -/
theorem open_txt {H : Type} {enc : TypeId × Value → H} {W : World} {f : Nat} {v : Value} {x : DataW H × List MemPlace} (h : DataW.trod enc Tryd.prog W 0 (fun _ => true) true f 28 [v] = some x) :
    ∃ p cap, ∃ ts : List ByteArray, v = .slice p ts.length cap ∧ TxtAt W p ts ∧ FitT ts := by
  rcases open_strings Tryd.underlying28 Tryd.underlying9 Tryd.cellsStr h with ⟨hcs, _⟩ | ⟨a, l, c, ss, hcs, _, hl, hm, hz, _, hcell, hws⟩
  · simp at hcs
    exact ⟨none, 0, [], hcs, Or.inl rfl, by unfold maxLen; simp, fun t ht => by simp at ht⟩
  · simp at hcs
    have hz' : ss.length = c := by simpa using hz
    have hlen : (ss.take l).length = l := by rw [List.length_take]; omega
    refine ⟨some a, c, ss.take l, by rw [hlen]; exact hcs, ?_, by omega, fun t ht => hws t (List.mem_of_mem_take ht)⟩
    by_cases h0 : l = 0
    · subst h0; exact Or.inl rfl
    · right
      have hc0 := hcell 0 (by omega)
      obtain ⟨b, off, spot⟩ := a
      have hspot : spot = none := by simpa [Addr.add] using World.cell?_spot hc0
      subst hspot
      refine ⟨b, off, rfl, fun i hi => ?_⟩
      rw [hlen] at hi
      have := hcell i (by omega)
      rw [addr_add] at this
      rw [this, List.getElem_take, List.getD_eq_getElem?_getD, List.getElem?_eq_getElem (by omega)]
      rfl

set_option maxRecDepth 100000 in
/-- A slice of fields that came in. -/
theorem open_fields {H : Type} {enc : TypeId × Value → H} {W : World} {b0 : Nat} {v : Value} {dd : DataW H} {p : List MemPlace}
    (hv : Value.okWide Tryd.prog W .any b0 22 v) (h : DataW.Trod enc Tryd.prog W 0 (fun _ => true) true 22 v dd p) : ∃ d : List Fx, IsXs W v d ∧ FitX d := by
  obtain ⟨a0, len, cap, rfl⟩ := okWide_slice Tryd.underlying22 hv
  obtain ⟨fuel, hf⟩ := h
  rcases open_slice_pairs Tryd.underlying22 Tryd.underlying30 Tryd.cellsFld rfl rfl Tryd.cellsStr Tryd.cellsStrs hf with ⟨hcs, _⟩ | ⟨a, l, c, m, n, V0, V1, D0, D1, P0, P1, hcs, _, hl, hm, hmm, hdat, hall⟩
  · simp [Value.cells] at hcs
    obtain ⟨rfl, rfl, rfl⟩ := hcs
    exact ⟨[], ⟨none, 0, rfl, Or.inl rfl, fun x hx => by simp at hx⟩, by unfold maxLen; simp, fun x hx => by simp at hx⟩
  · simp [Value.cells] at hcs
    obtain ⟨rfl, rfl, rfl⟩ := hcs
    have hm' : m = cap := by simpa using hmm
    subst hm'
    have each : ∀ i, i < m → ∃ x : Fx, V0 i = .string x.name ∧ V1 i = x.sl ∧ TxtAt W x.p x.txt ∧ FitF x.fld := by
      intro i hi
      obtain ⟨_, _, h3, h4⟩ := hall i hi
      obtain ⟨s, e0, _, hs⟩ := DataW.trod_string Tryd.underlying9 h3
      simp only [List.cons.injEq, and_true] at e0
      obtain ⟨q, cc, ts, e1, ht, hft⟩ := open_txt h4
      exact ⟨⟨s, q, cc, ts⟩, e0, e1, ht, hs, hft⟩
    by_cases h0 : len = 0
    · subst h0
      exact ⟨[], ⟨_, _, rfl, Or.inl rfl, fun x hx => by simp at hx⟩, by unfold maxLen; simp, fun x hx => by simp at hx⟩
    · have hc0 := (hall 0 (by omega)).1
      obtain ⟨b, off, spot⟩ := a
      have hspot : spot = none := by simpa [Addr.add] using World.cell?_spot hc0
      subst hspot
      let f : Nat → Fx := fun i => if h : i < m then (each i h).choose else default
      have fs : ∀ i (h : i < m), V0 i = .string (f i).name ∧ V1 i = (f i).sl ∧ TxtAt W (f i).p (f i).txt ∧ FitF (f i).fld := fun i h => by
        have e : f i = (each i h).choose := dif_pos h
        rw [e]
        exact (each i h).choose_spec
      have hlen : ((List.range len).map f).length = len := by simp
      refine ⟨(List.range len).map f, ⟨_, m, by rw [hlen], Or.inr ⟨b, off, rfl, fun i hi => ?_⟩, fun x hx => ?_⟩, by rw [hlen]; omega, fun x hx => ?_⟩
      · have hi0 : i < len := by simpa using hi
        obtain ⟨h1, h2, _, _⟩ := hall i (by omega)
        obtain ⟨g1, g2, _⟩ := fs i (by omega)
        rw [addr_add] at h1 h2
        have ef : ((List.range len).map f)[i]'hi = f i := by simp
        rw [ef, h1, ← g1]
        refine ⟨rfl, ?_⟩
        rw [Nat.add_assoc, h2, g2]
      · obtain ⟨i, hi, rfl⟩ := List.mem_map.1 hx
        exact (fs i (by have := List.mem_range.1 hi; omega)).2.2.1
      · obtain ⟨i, hi, rfl⟩ := List.mem_map.1 hx
        exact (fs i (by have := List.mem_range.1 hi; omega)).2.2.2

set_option maxRecDepth 100000 in
/-- A slice of bytes that came in. -/
theorem open_bytes {H : Type} {enc : TypeId × Value → H} {W : World} {b0 : Nat} {v : Value} {dd : DataW H} {p : List MemPlace}
    (hv : Value.okWide Tryd.prog W .any b0 39 v) (h : DataW.Trod enc Tryd.prog W 0 (fun _ => true) true 39 v dd p) : ∃ l : List UInt8, RestAt W.heap.size W v l := by
  obtain ⟨a0, len, cap, rfl⟩ := okWide_slice Tryd.underlying39 hv
  obtain ⟨fuel, hf⟩ := h
  rcases open_ints Tryd.underlying39 Tryd.underlying5 Tryd.cellsByte hf with ⟨hcs, _⟩ | ⟨a, l, c, zs, hcs, _, hl, hm, hz, _, hcell, hws⟩
  · simp [Value.cells] at hcs
    obtain ⟨rfl, rfl, rfl⟩ := hcs
    exact ⟨[], none, 0, rfl, by simp, by unfold maxLen; omega, Or.inl rfl⟩
  · simp [Value.cells] at hcs
    obtain ⟨rfl, rfl, rfl⟩ := hcs
    have hz' : zs.length = cap := by simpa using hz
    have hlen : ((zs.take len).map fun z => UInt8.ofNat z.toNat).length = len := by rw [List.length_map, List.length_take]; omega
    refine ⟨(zs.take len).map fun z => UInt8.ofNat z.toNat, some a, cap, by rw [hlen], by rw [hlen]; exact hl, hm, ?_⟩
    by_cases h0 : len = 0
    · subst h0; exact Or.inl (by simp)
    · right
      have hc0 := hcell 0 (by omega)
      obtain ⟨b, off, spot⟩ := a
      have hspot : spot = none := by simpa [Addr.add] using World.cell?_spot hc0
      subst hspot
      refine ⟨b, off, rfl, ?_, fun i hi => ?_⟩
      · have := cell_block hc0
        simpa [Addr.add] using this
      · rw [hlen] at hi
        have := hcell i (by omega)
        rw [addr_add, List.getD_eq_getElem?_getD, List.getElem?_eq_getElem (by omega)] at this
        rw [this]
        have hw := hws _ (List.getElem_mem (show i < zs.length by omega))
        have hb : 0 ≤ zs[i] ∧ zs[i] ≤ 255 := by simpa [Lit.wf, IntKind.min, IntKind.max, IntKind.signed, IntKind.bits] using hw
        simp
        omega

end Go.Proofs.YtmjchokacmbkoabDoor

/-
  How long a value's bytes are, and how many blanks its line has.
-/
namespace Go.Proofs.YtmjchokacmbkoabDoor
open Go.RowKit Go.Lib

/-- What ValueSizes counts. -/
def cntF (f : Fld) : Nat := 2 + f.1.size + (f.2.map fun t => 1 + t.size).sum
def cntB (fs : List Fld) : Nat := 1 + (fs.map cntF).sum

theorem encTs_len (ts : List ByteArray) : (ts.flatMap encT).length = (ts.map fun t => 1 + t.size).sum := by
  induction ts with
  | nil => rfl
  | cons t ts ih =>
    rw [List.flatMap_cons, List.length_append, encT_len, ih, List.map_cons, List.sum_cons]
    omega

theorem encF_cnt (f : Fld) : (encF f).length = cntF f := by
  unfold encF cntF
  rw [List.length_append, List.length_append, encT_len, encTs_len]
  simp only [List.length_cons, List.length_nil]
  omega

theorem encL_cnt (fs : List Fld) : (encL fs).length = cntB fs := by
  unfold encL cntB
  rw [List.length_cons]
  have : (fs.flatMap encF).length = (fs.map cntF).sum := by
    induction fs with
    | nil => rfl
    | cons f fs ih => rw [List.flatMap_cons, List.length_append, encF_cnt, ih, List.map_cons, List.sum_cons]
  omega

/-- The blanks of a text. -/
def blanks (l : List UInt8) : Nat := l.countP fun c => c == 32

theorem blanks_append (a b : List UInt8) : blanks (a ++ b) = blanks a + blanks b := List.countP_append ..

theorem blanks_join : ∀ ws : List (List UInt8), (∀ w ∈ ws, blanks w = 0) → blanks (Lib.join ws [32]) = ws.length - 1
  | [], _ => rfl
  | [w], h => by
    have := h w (by simp)
    simpa [Lib.join] using this
  | w :: v :: ws, h => by
    have h1 := h w (by simp)
    have ih := blanks_join (v :: ws) (fun x hx => h x (by simp [hx]))
    have e : Lib.join (w :: v :: ws) [32] = w ++ [32] ++ Lib.join (v :: ws) [32] := by simp [Lib.join]
    rw [e, blanks_append, blanks_append, h1, ih]
    simp [blanks]
    omega

theorem field_noblank {l : List UInt8} (h : fieldB l = true) : blanks l = 0 := by
  unfold blanks
  rw [List.countP_eq_zero]
  intro c hc
  unfold fieldB spell at h
  cases l with
  | nil => simp at hc
  | cons x r =>
    simp only [Bool.and_eq_true, List.all_eq_true] at h
    have key : lodB (c.toNat : Int) = true ∨ smallB (c.toNat : Int) = true := by
      rcases List.mem_cons.1 hc with rfl | hc
      · exact Or.inr h.1.2
      · exact Or.inl (h.2 c hc)
    intro e
    have e : c = 32 := by simpa using e
    subst e
    rcases key with k | k
    · revert k; decide
    · revert k; decide

theorem hexd_noblank (k : Nat) (h : k < 16) : (hexd k == 32) = false := by
  have t : ((List.range 16).all fun k => !(hexd k == 32)) = true := by decide
  have := List.all_eq_true.1 t k (List.mem_range.2 h)
  simpa using this

theorem write_noblank (l : List UInt8) : blanks (writeL l) = 0 := by
  induction l with
  | nil => rfl
  | cons c l ih =>
    rw [writeL_cons, blanks_append, ih]
    unfold writeC
    cases hp : plainB (c.toNat : Int) with
    | true =>
      have : (c == 32) = false := by
        rw [beq_eq_false_iff_ne]
        intro e
        subst e
        revert hp; decide
      simp [blanks, this]
    | false =>
      have hc := c.toNat_lt
      simp [blanks, hexd_noblank (c.toNat / 16) (by omega), hexd_noblank (c.toNat % 16) (by omega)]

theorem word_data (n t : ByteArray) : (wordOf n t).data.toList = n.data.toList ++ [61] ++ writeL t.data.toList := by
  unfold wordOf
  obtain ⟨⟨n⟩⟩ := n
  simp

theorem word_noblank {n t : ByteArray} (h : fieldB n.data.toList = true) : blanks (wordOf n t).data.toList = 0 := by
  rw [word_data, blanks_append, blanks_append, field_noblank h, write_noblank]
  rfl

theorem words_cnt (fs : List Fld) : (wordsL fs).length = totF fs := by
  unfold wordsL totF
  induction fs with
  | nil => rfl
  | cons f fs ih => rw [List.flatMap_cons, List.length_append, ih]; simp [wordsF]

theorem line_blanks {fs : List Fld} (h : mayB fs = true) : blanks (lineOf fs).data.toList = totF fs - 1 := by
  unfold lineOf
  show blanks (Lib.join ((wordsL fs).map (·.data.toList)) [32]).toArray.toList = _
  rw [List.toList_toArray, blanks_join, List.length_map, words_cnt]
  intro w hw
  obtain ⟨x, hx, rfl⟩ := List.mem_map.1 hw
  obtain ⟨f, hf, hx⟩ := List.mem_flatMap.1 hx
  obtain ⟨t, _, rfl⟩ := List.mem_map.1 hx
  exact word_noblank (fits_parts (may_fits h f hf)).2.2.2.2

theorem line_empty (fs : List Fld) : (lineOf fs).size = 0 ↔ totF fs = 0 := by
  have e : (lineOf fs).size = (Lib.join ((wordsL fs).map (·.data.toList)) [32]).length := by
    show (Lib.join ((wordsL fs).map (·.data.toList)) [32]).toArray.size = _
    simp
  rw [e, ← words_cnt]
  cases hw : wordsL fs with
  | nil => simp [Lib.join, List.intercalate]
  | cons x r =>
    have hx : x ∈ wordsL fs := by rw [hw]; simp
    obtain ⟨f, hf, hx⟩ := List.mem_flatMap.1 hx
    obtain ⟨t, _, rfl⟩ := List.mem_map.1 hx
    have hl : 0 < (wordOf f.1 t).data.toList.length := by rw [word_data]; simp; omega
    constructor
    · intro h
      exfalso
      cases r with
      | nil =>
        rw [List.map_cons, List.map_nil, Lib.join_one] at h
        omega
      | cons y r =>
        have : Lib.join ((wordOf f.1 t :: y :: r).map (·.data.toList)) [32] = (wordOf f.1 t).data.toList ++ [32] ++ Lib.join ((y :: r).map (·.data.toList)) [32] := by simp [Lib.join]
        rw [this] at h
        simp at h
    · intro h; simp at h

theorem join_size (c : Nat) : ∀ ws : List (List UInt8), (∀ w ∈ ws, w.length ≤ c) → (Lib.join ws [32]).length ≤ ws.length * (c + 1)
  | [], _ => by simp [Lib.join, List.intercalate]
  | [w], h => by
    have := h w (by simp)
    rw [Lib.join_one]
    simp
    omega
  | w :: v :: ws, h => by
    have h1 := h w (by simp)
    have ih := join_size c (v :: ws) (fun x hx => h x (by simp [hx]))
    have e : Lib.join (w :: v :: ws) [32] = w ++ [32] ++ Lib.join (v :: ws) [32] := by simp [Lib.join]
    have e2 : (w :: v :: ws).length * (c + 1) = (v :: ws).length * (c + 1) + (c + 1) := by rw [List.length_cons, Nat.add_mul, Nat.one_mul]
    have e3 : ([32] : List UInt8).length = 1 := rfl
    rw [e, List.length_append, List.length_append, e2, e3]
    omega

theorem line_size {fs : List Fld} (h : mayB fs = true) : (lineOf fs).size ≤ 53504 := by
  have e : (lineOf fs).size = (Lib.join ((wordsL fs).map (·.data.toList)) [32]).length := by
    show (Lib.join ((wordsL fs).map (·.data.toList)) [32]).toArray.size = _
    simp
  have h1 := join_size 417 ((wordsL fs).map (·.data.toList)) (fun w hw => by
    obtain ⟨x, hx, rfl⟩ := List.mem_map.1 hw
    obtain ⟨f, hf, hx⟩ := List.mem_flatMap.1 hx
    obtain ⟨t, ht, rfl⟩ := List.mem_map.1 hx
    simpa using word_len (may_fits h f hf) ht)
  have h2 := wordsL_len (fun f hf => may_fits h f hf) (may_parts h).1
  rw [List.length_map] at h1
  have h3 : (wordsL fs).length * (417 + 1) ≤ 128 * (417 + 1) := Nat.mul_le_mul_right _ h2
  omega

theorem cnt_small {fs : List Fld} (h : mayB fs = true) (i : Nat) : 1 + ((fs.take i).map cntF).sum ≤ 17057 := by
  have h1 : ((fs.take i).map cntF).sum = ((fs.take i).flatMap encF).length := by
    generalize fs.take i = gs
    induction gs with
    | nil => rfl
    | cons f gs ih => rw [List.flatMap_cons, List.length_append, encF_cnt, ← ih, List.map_cons, List.sum_cons]
  have := enc_ahead h i
  omega

theorem tot_small {fs : List Fld} (h : mayB fs = true) (i : Nat) : totF (fs.take i) ≤ 128 := by
  rw [← words_cnt]
  refine wordsL_len (fun f hf => may_fits h f (List.mem_of_mem_take hf)) ?_
  have := (may_parts h).1
  rw [List.length_take]
  omega

end Go.Proofs.YtmjchokacmbkoabDoor

/-
  ValueSizes answers true.
-/
namespace Go.Proofs.YtmjchokacmbkoabDoor
open Go.RowKit Go.Lib

theorem take_snoc {α : Type} {l : List α} {i : Nat} (h : i < l.length) : l.take (i + 1) = l.take i ++ [l[i]] := List.take_succ_eq_append_getElem h

theorem blanks_step (s : ByteArray) (k : Nat) (h : k < s.size) : blanks (s.data.toList.take (k + 1)) = blanks (s.data.toList.take k) + if s[k] = 32 then 1 else 0 := by
  rw [take_succ_byte s k h, blanks_append]
  congr 1
  unfold blanks
  by_cases e : s[k] = 32
  · rw [if_pos e, e]; rfl
  · rw [if_neg e]
    have : (s[k] == 32) = false := beq_eq_false_iff_ne.2 e
    simp [this]

theorem blanks_le (l : List UInt8) (k : Nat) : blanks (l.take k) ≤ k := by
  unfold blanks
  have := List.countP_le_length (p := fun c => c == (32 : UInt8)) (l := l.take k)
  rw [List.length_take] at this
  omega


set_option maxHeartbeats 4000000 in
set_option maxRecDepth 100000 in
theorem sizes_any (v : Value) (d : List Fx) (w : World) (hp : PlainAt w) (hv : IsXs w v d) (hf : FitX d) :
    Calls Tryd.prog 5 #[v] w fun e w' => e = .returned (.bool true) ∧ Below w.heap.size w w' := by
  have HP := hid hp
  have HV := hid hv
  have HF := hid hf
  clear hp hv hf
  cases hm : mayB (d.map Fx.fld) with
  | false =>
    have HM := hid hm
    have hz : sizeN (d.map Fx.fld) = 0 := by unfold sizeN; rw [hm]; rfl
    have HZ := hid hz
    clear hm hz
    have HMY : Hid (∀ W, IsXs W v d → Calls Tryd.prog 16 #[v] W fun e w' => e = .returned (.bool false) ∧ Grown W w') := fun W h => by have := may_any v d W h HF.out; rw [HM.out] at this; exact this
    go_enter Tryd.func5, Tryd.ntmps5
    go_wp2_with (first
      | (go_at_call 6; refine (fixed_any _ HP.out).mono ?_; rintro e w1 ⟨rfl, q1⟩)
      | (go_at_call 15; refine (print_no v d w1 (HV.out.kept q1) HF.out HM.out).mono ?_; rintro e w2 ⟨rfl, q2⟩; have b2 : Below w.heap.size w w2 := bel_then q1 q1.size q2.below)
      | (go_at_call 16; refine (HMY.out w2 (HV.out.kept b2)).mono ?_; rintro e w3 ⟨rfl, q3⟩; have b3 : Below w.heap.size w w3 := bel_then b2 b2.size q3.below)
      | (go_at_call 17; refine (size_any v d w3 (HV.out.kept b3) HF.out).mono ?_; rintro e w4 ⟨rfl, q4⟩; rw [HZ.out]))
    go_ret
    exact ⟨rfl, bel_then b3 b3.size q4⟩
  | true =>
    have HM := hid hm
    have hz : sizeN (d.map Fx.fld) = cntB (d.map Fx.fld) := by unfold sizeN; rw [hm, if_pos rfl, encL_cnt]
    have HZ := hid hz
    have HBL := hid (line_blanks hm)
    have HLE := hid (line_empty (d.map Fx.fld))
    have hsz := line_size hm
    have HCS : Hid (∀ i, 1 + (((d.map Fx.fld).take i).map cntF).sum ≤ 17057) := cnt_small hm
    have HTS : Hid (∀ i, totF ((d.map Fx.fld).take i) ≤ 128) := tot_small hm
    have hd16 : d.length ≤ 16 := by have := (may_parts hm).1; simpa using this
    clear hm hz
    have HMY : Hid (∀ W, IsXs W v d → Calls Tryd.prog 16 #[v] W fun e w' => e = .returned (.bool true) ∧ Grown W w') := fun W h => by have := may_any v d W h HF.out; rw [HM.out] at this; exact this
    obtain ⟨s, hs⟩ : ∃ s, lineOf (d.map Fx.fld) = s := ⟨_, rfl⟩
    rw [hs] at HBL HLE hsz
    have HPR : Hid (∀ W, PlainAt W → IsXs W v d → Calls Tryd.prog 15 #[v] W fun e w' => e = .returned (.tuple #[.string s, .int .i64 0]) ∧ Below W.heap.size W w') := fun W h1 h2 => by have := print_yes v d W h1 h2 HF.out HM.out; rw [hs] at this; exact this
    have HIS : Hid (∀ W, Below w.heap.size w W → IsXs W v d) := fun W h => HV.out.kept h
    obtain ⟨p, cap, rfl, hd, ht⟩ := HV.out
    have HD := hid hd
    have HT := hid ht
    clear hs hd ht
    go_enter Tryd.func5, Tryd.ntmps5
    go_wp2_with (first
      | (go_at_call 6; refine (fixed_any _ HP.out).mono ?_; rintro e w1 ⟨rfl, q1⟩)
      | (go_at_call 15; refine (HPR.out w1 (HP.out.on q1) (HIS.out _ q1)).mono ?_; rintro e w2 ⟨rfl, q2⟩; have b2 : Below w.heap.size w w2 := bel_then q1 q1.size q2)
      | (go_at_call 16; refine (HMY.out w2 (HIS.out _ b2)).mono ?_; rintro e w3 ⟨rfl, q3⟩; have b3 : Below w.heap.size w w3 := bel_then b2 b2.size q3.below))
    have B3 := hid b3
    clear q1 q2 q3 b2 b3
    go_loopg [5, 6, 36] d.length (fun g vn vw vi wr => ∃ i N K : Nat, vi = .int .i64 i ∧ vn = .int .i64 N ∧ vw = .int .i64 K ∧ i ≤ d.length ∧ d.length - i ≤ g ∧ N = 1 + (((d.map Fx.fld).take i).map cntF).sum ∧ K = totF ((d.map Fx.fld).take i) ∧ Below w.heap.size w wr)
    case atStart => exact ⟨0, 1, 0, rfl, rfl, rfl, by omega, by omega, by simp, by simp [totF], B3.out⟩
    case round =>
      obtain ⟨i, N, K, rfl, rfl, rfl, hi, hgk, hN, hK, hb⟩ := hrel
      have hNs : N ≤ 17057 := by rw [hN]; exact HCS.out i
      have hKs : K ≤ 128 := by rw [hK]; exact HTS.out i
      by_cases hlt : i < d.length
      · have hltz : (i : Int) < (d.length : Int) := by omega
        have hiz : (0 : Int) ≤ i := by omega
        obtain ⟨b, off, rfl, hxs⟩ : ∃ b off, p = some ⟨b, off, none⟩ ∧ XsAt w b off d := by
          rcases HD.out with h | h
          · subst h; simp at hlt
          · exact h
        obtain ⟨c0, c1⟩ := hxs.kept hb i hlt
        have hxi : (d[i]).at wr := (HT.out _ (List.getElem_mem hlt)).kept hb
        have htk : (d.map Fx.fld).take (i + 1) = (d.map Fx.fld).take i ++ [(d[i]).fld] := by
          rw [take_snoc (by simpa using hlt)]; simp
        obtain ⟨x, hx⟩ : ∃ x, d[i] = x := ⟨_, rfl⟩
        have hfi : fitsB (d[i]).fld = true := may_fits HM.out _ (List.mem_map.2 ⟨_, List.getElem_mem hlt, rfl⟩)
        rw [hx] at c0 c1 hxi htk hfi
        unfold Fx.sl at c1
        obtain ⟨bt, ot, hpt, hct⟩ : ∃ b off, x.p = some ⟨b, off, none⟩ ∧ ∀ i, (h : i < x.txt.length) → wr.cell? ⟨b, off + i, none⟩ = some (.string x.txt[i]) := by
          rcases hxi with h | h
          · have := (fits_parts hfi).2.1
            simp only [Fx.fld] at this
            rw [h] at this; simp at this
          · exact h
        rw [hpt] at c1
        have HCT := hid hct
        clear hpt hct hxi hfi
        have hN1 : 1 + (((d.map Fx.fld).take (i + 1)).map cntF).sum = N + (2 + x.name.size) + (x.txt.map fun t => 1 + t.size).sum := by
          rw [htk, List.map_append, List.sum_append, hN]
          simp [cntF, Fx.fld]
          omega
        have hK1 : totF ((d.map Fx.fld).take (i + 1)) = K + x.txt.length := by
          rw [htk, totF_append, totF_one, hK]
          rfl
        have hNs1 := HCS.out (i + 1)
        have hKs1 := HTS.out (i + 1)
        rw [hN1] at hNs1
        rw [hK1] at hKs1
        have HN1 := hid hN1
        have HK1 := hid hK1
        have HB := hid hb
        have hns : x.name.size ≤ 17057 := by omega
        have htl : x.txt.length ≤ 128 := by omega
        have HNS1 := hid hNs1
        clear hxs hx htk hN hK hN1 hK1 hb hNs1
        go_wp2_with fail
        obtain ⟨W1, hW1⟩ : ∃ W1, wr.alloc (.cells #[.string x.name, .slice (some ⟨bt, ot, none⟩) x.txt.length x.cap] 30) = W1 := ⟨_, rfl⟩
        have hbW1 : Below w.heap.size w W1 := by rw [← hW1]; exact HB.out.alloc HB.out.size _
        have hat1 : ∀ i, (h : i < x.txt.length) → W1.cell? ⟨bt, ot + i, none⟩ = some (.string x.txt[i]) := fun i h => by
          rw [← hW1]
          exact (((Below.refl wr.heap.size wr).alloc (Nat.le_refl _) _).cell (p := ⟨bt, ot + i, none⟩) (cell_block (HCT.out i h))).trans (HCT.out i h)
        have HBW := hid hbW1
        have HAT := hid hat1
        rw [hW1]
        clear hW1 hbW1 hat1 c0 c1
        go_loopg [5, 6, 49] x.txt.length (fun g vn vw vj wj => ∃ j M L : Nat, vj = .int .i64 j ∧ vn = .int .i64 M ∧ vw = .int .i64 L ∧ j ≤ x.txt.length ∧ x.txt.length - j ≤ g ∧ M = N + (2 + x.name.size) + ((x.txt.take j).map fun t => 1 + t.size).sum ∧ L = K + j ∧ wj = W1)
        case atStart => exact ⟨0, N + (2 + x.name.size), K, rfl, by go_num, rfl, by omega, by omega, by simp, rfl, rfl⟩
        case round =>
          obtain ⟨j, M, L, rfl, rfl, rfl, hj, hgj, hM, hL, rfl⟩ := hrel
          by_cases hlj : j < x.txt.length
          · have hljz : (j : Int) < (x.txt.length : Int) := by omega
            have hjz : (0 : Int) ≤ (j : Int) := by omega
            have ct := HAT.out j hlj
            have hstp : ((x.txt.take (j + 1)).map fun t => 1 + t.size).sum = ((x.txt.take j).map fun t => 1 + t.size).sum + (1 + (x.txt[j]).size) := by
              rw [take_snoc hlj, List.map_append, List.sum_append]; simp
            have hle : ((x.txt.take (j + 1)).map fun t => 1 + t.size).sum ≤ (x.txt.map fun t => 1 + t.size).sum := by
              conv => rhs; rw [← List.take_append_drop (j + 1) x.txt, List.map_append, List.sum_append]
              omega
            have hns1 := HNS1.out
            obtain ⟨t, htt⟩ : ∃ t, x.txt[j] = t := ⟨_, rfl⟩
            rw [htt] at ct hstp
            have hts : t.size ≤ 17057 := by omega
            have hMs : M ≤ 17057 := by omega
            have HM1 : Hid (M + (1 + t.size) = N + (2 + x.name.size) + ((x.txt.take (j + 1)).map fun t => 1 + t.size).sum) := by show _ = _; omega
            have hLs : L ≤ 256 := by omega
            clear htt hstp hle hns1 hM
            go_wp2_with fail
            go_roundg (x.txt.length - (j + 1))
            case measure => omega
            exact ⟨j + 1, M + (1 + t.size), L + 1, by go_num, by go_num, by go_num, by omega, by omega, HM1.out, by omega, rfl⟩
          · have hljz : ¬ (j : Int) < (x.txt.length : Int) := by omega
            have htk2 : x.txt.take j = x.txt := List.take_of_length_le (by omega)
            rw [htk2] at hM
            obtain rfl : j = x.txt.length := by omega
            have HM2 := hid hM
            have HL2 := hid hL
            clear hM hL htk2
            go_wp2_with fail
            go_roundg (d.length - (i + 1))
            case measure => omega
            exact ⟨i + 1, M, L, by go_num, rfl, rfl, by omega, by omega, by rw [HN1.out]; exact HM2.out, by rw [HK1.out]; exact HL2.out, HBW.out⟩
      · have hltz : ¬ (i : Int) < (d.length : Int) := by omega
        have htk : (d.map Fx.fld).take i = d.map Fx.fld := List.take_of_length_le (by simp; omega)
        rw [htk] at hN hK
        have HN2 : Hid (sizeN (d.map Fx.fld) = N) := HZ.out.trans hN.symm
        have HK2 := hid hK
        have HB := hid hb
        clear hN hK htk hb
        go_wp2_with fail
        go_loopg [11, 64] s.size (fun g vb vk wj => ∃ k T : Nat, vk = .int .i64 k ∧ vb = .int .i64 T ∧ k ≤ s.size ∧ s.size - k ≤ g ∧ T = blanks (s.data.toList.take k) ∧ Below w.heap.size w wj)
        case atStart => exact ⟨0, 0, rfl, rfl, by omega, by omega, rfl, HB.out⟩
        case round =>
          obtain ⟨k, T, rfl, rfl, hk, hgj, hT, hbj⟩ := hrel
          have hTk : T ≤ k := by rw [hT]; exact blanks_le _ _
          by_cases hlk : k < s.size
          · have hlkz : (k : Int) < (s.size : Int) := by omega
            have hkz : (0 : Int) ≤ (k : Int) := by omega
            have hst := blanks_step s k hlk
            rw [← hT] at hst
            obtain ⟨c, hc⟩ : ∃ c, s[k] = c := ⟨_, rfl⟩
            rw [hc] at hst
            by_cases h32 : c = 32
            · subst h32
              rw [if_pos rfl] at hst
              have HST := hid hst
              clear hst hT
              go_wp2_with fail
              go_roundg (s.size - (k + 1))
              case measure => omega
              exact ⟨k + 1, T + 1, by go_num, by go_num, by omega, by omega, HST.out.symm, hbj⟩
            · rw [if_neg h32] at hst
              have HST := hid hst
              have hcb : ((c.toNat : Int) == 32) = false := by
                rw [beq_eq_false_iff_ne]
                intro e
                exact h32 (UInt8.toNat_inj.1 (by have : (32 : UInt8).toNat = 32 := rfl; omega))
              clear hst hT
              go_wp2_with fail
              go_roundg (s.size - (k + 1))
              case measure => omega
              exact ⟨k + 1, T, by go_num, rfl, by omega, by omega, HST.out.symm, hbj⟩
          · have hlkz : ¬ (k : Int) < (s.size : Int) := by omega
            have htk2 : s.data.toList.take k = s.data.toList := List.take_of_length_le (by simp; omega)
            rw [htk2, HBL.out, ← HK2.out] at hT
            have hle := HLE.out
            rw [← HK2.out] at hle
            have hszw := size_any (.slice p d.length cap) d wr (HIS.out _ hbj) HF.out
            rw [HN2.out] at hszw
            have HSZ := hid hszw
            clear htk2 hszw
            by_cases hK0 : K = 0
            · have hs0 : s = ⟨#[]⟩ := by
                have := hle.2 hK0
                obtain ⟨⟨l⟩⟩ := s
                have : l.length = 0 := this
                rw [List.length_eq_zero_iff.1 this]
              have hse : s.toList.isEmpty = true := by rw [hs0, Lib.toList_data]; rfl
              have e1 : ((K : Int) == 0) = true := beq_iff_eq.2 (by omega)
              have e2 : ((T : Int) == 0) = true := beq_iff_eq.2 (by omega)
              have e3 : ¬ (0 : Int) < (K : Int) - 1 := by omega
              have e4 : (K : Int) - 1 < 0 := by omega
              have e5 : (K : Int) - 1 ≤ 0 := by omega
              have e6 : max (0 : Int) ((K : Int) - 1) = 0 := by omega
              clear hle hT hTk hKs hgj hk hlk HBL HLE HK2 hs0 hK0
              go_wp2_with (first | (go_at_call 17; refine HSZ.out.mono ?_; rintro e w9 ⟨rfl, q9⟩))
              go_ret
              exact ⟨rfl, bel_then hbj hbj.size q9⟩
            · obtain ⟨K', rfl⟩ : ∃ K', K = K' + 1 := ⟨K - 1, by omega⟩
              obtain rfl : T = K' := by omega
              have hse : s.toList.isEmpty = false := by
                rw [Lib.toList_data]
                cases h : s.data.toList with
                | nil =>
                  exfalso
                  have h1 : s.size = 0 := by have : s.data.toList.length = s.size := by simp
                                             rw [h] at this; simpa using this.symm
                  have := hle.1 h1
                  omega
                | cons _ _ => rfl
              have hT1 : ((T : Int) + 1 == 0) = false := beq_eq_false_iff_ne.2 (by omega)
              clear hle hT hTk hgj hk hlk HBL HLE HK2 hK0
              go_wp2_with (first | (go_at_call 17; refine HSZ.out.mono ?_; rintro e w9 ⟨rfl, q9⟩))
              go_ret
              exact ⟨rfl, bel_then hbj hbj.size q9⟩

end Go.Proofs.YtmjchokacmbkoabDoor
