/-
  Texts of this claim, one behind the other: Bas Blk Sze0 Nms Txr Txh Renc Byt Rwr Rrd Txs Lin0 Rwd Prs.
-/
import Derived.Test.YtmjchokacmbkoaaDoorRows
import Derived.Test.YtmjchokacmbkoaaDoorPa
import Derived.MakeChecks
import Derived.ProofKit
import Derived.OpenShut
import Derived.Lay
import Derived.Stop.Joined
import Derived.SliceStrings
import Derived.Deep.SlicePairs
import Derived.Lib.LaidU8
import Derived.SizedLaws
import Derived.ChangeSlices
import Derived.Deep.DeepHandedRow
import Derived.Test.YtmjchokacmbkoaaDoorPc
import Derived.Test.YtmjchokacmbkoaaDoorPd
/-
  What each row's proof opens its arguments by, and what the laid variables give.
-/
namespace Go.Proofs.YtmjchokacmbkoaaDoor
open Go.ChangeShapes Go.WideShapes Go.ChangeAt Go.RowKit Go.Lib Go.Deep

theorem Tryd.own : ownKnob Tryd.prog.godebug = none := by kernel_rfl
theorem Tryd.laidOut : laidOutB Tryd.prog = true := by kernel_rfl
theorem Tryd.cellsFld : Tryd.prog.cellsOf 45 = 2 := by kernel_rfl
theorem Tryd.cellsStr : Tryd.prog.cellsOf 9 = 1 := by kernel_rfl
theorem Tryd.cellsStrs : Tryd.prog.cellsOf 40 = 1 := by kernel_rfl
theorem Tryd.cellsByte : Tryd.prog.cellsOf 5 = 1 := by kernel_rfl

/-- What the rows list. -/
def seatLaid : List (String × DataW Unit) := [("unicode/utf8.acceptRanges", Rows.laid_unicode_utf8_acceptRanges), ("folio/value.plain", Rows.laid_folio_value_plain), ("unicode/utf8.first", Rows.laid_unicode_utf8_first)]

theorem gPlain : Tryd.prog.globalNamed "folio/value.plain" = some 0 := by kernel_rfl
theorem tPlain : (Tryd.prog.globals[0]?).map (·.type) = some 95 := by kernel_rfl
theorem uPair : Tryd.prog.underlying 94 = some (.array 2 5) := by kernel_rfl
theorem cPair : Tryd.prog.cellsOf 94 = 2 := by kernel_rfl
theorem cPlain : Tryd.prog.cellsOf 95 = 26 := by kernel_rfl

def plainLits : List (Int × Int) := [(97, 122), (65, 90), (48, 57), (45, 45), (46, 46), (95, 95), (124, 124), (42, 42), (64, 64), (47, 47), (58, 58), (43, 43), (44, 44)]

theorem plain_data : (Rows.laid_folio_value_plain : DataW Unit) = .agg (plainLits.map fun p => .agg [.lit (.int .u8 p.1), .lit (.int .u8 p.2)]) := rfl

theorem one_byte_read {W : World} {f : Nat} {cs : List Value} {k : Int} {q : List MemPlace} (h : DataW.trod (fun _ => ()) Tryd.prog W 0 (fun _ => true) false f 5 cs = some (.lit (.int .u8 k), q)) : cs = [.int .u8 k] := by
  obtain ⟨n, rfl, e, _⟩ := DataW.trod_int Tryd.underlying5 h
  cases e
  rfl

theorem pair_cells {W : World} {f : Nat} {cs : List Value} {a b : Int} {q : List MemPlace} (hl : cs.length = 2) (h : DataW.trod (fun _ => ()) Tryd.prog W 0 (fun _ => true) false f 94 cs = some (.agg [.lit (.int .u8 a), .lit (.int .u8 b)], q)) : cs = [.int .u8 a, .int .u8 b] := by
  match cs, hl with
  | [x, y], _ =>
    obtain ⟨f0, d0, q0, e0, h0⟩ := array_elem uPair h 0 (by decide)
    obtain ⟨f1, d1, q1, e1, h1⟩ := array_elem uPair h 1 (by decide)
    rw [Tryd.cellsByte] at h0 h1
    simp only [List.getElem?_cons_zero, List.getElem?_cons_succ, Option.some.injEq] at e0 e1
    subst e0 e1
    have k0 := one_byte_read h0
    have k1 := one_byte_read h1
    simp at k0 k1
    rw [k0, k1]

theorem list_pairs : ∀ (n : Nat) (cs : List Value) (ps : List (Int × Int)), cs.length = n * 2 → ps.length = n → (∀ i (h : i < ps.length), (cs.drop (i * 2)).take 2 = [.int .u8 ps[i].1, .int .u8 ps[i].2]) → cs = ps.flatMap fun p => [.int .u8 p.1, .int .u8 p.2]
  | 0, cs, ps, hc, hp, _ => by
    rw [List.length_eq_zero_iff.1 (by omega : cs.length = 0), List.length_eq_zero_iff.1 hp]
    rfl
  | n + 1, cs, ps, hc, hp, h => by
    match ps, hp, cs, hc with
    | _ :: _, _, [], hc => simp at hc
    | _ :: _, _, [_], hc => simp at hc; omega
    | p :: ps, hp, x :: y :: cs, hc =>
      have h0 := h 0 (by simp)
      simp at h0
      have := list_pairs n cs ps (by simp at hc; omega) (by simpa using hp) (fun i hi => by
        have := h (i + 1) (by simp; omega)
        rw [show (i + 1) * 2 = i * 2 + 1 + 1 by omega] at this
        simpa using this)
      rw [List.flatMap_cons, ← this, h0.1, h0.2]
      rfl

theorem plain_of_laid {W : World} (h : laidMetH Tryd.prog seatLaid W) : PlainAt W := by
  rw [MakeChecks.laidMetH_plain _ _ _ (by kernel_rfl)] at h
  obtain ⟨g, t, cs, fuel, p, hg, ht, hv, hd⟩ := laidMet.reads h (n := "folio/value.plain") (d := Rows.laid_folio_value_plain) (.tail _ (.head _))
  obtain rfl := Option.some.inj (gPlain.symm.trans hg)
  obtain rfl := Option.some.inj (tPlain.symm.trans ht)
  rw [plain_data] at hd
  obtain ⟨_, _, _, _, hlen, _, _⟩ := DataW.trod_array Tryd.underlying95 hd
  rw [cPlain] at hlen
  have hcs := list_pairs 13 cs.toList plainLits (by simpa using hlen) rfl (fun i hi => by
    have hi13 : i < 13 := hi
    obtain ⟨f, d, q, e, hx⟩ := array_elem Tryd.underlying95 hd i hi13
    rw [cPair] at hx
    rw [List.getElem?_map, List.getElem?_eq_getElem hi] at e
    simp only [Option.map_some, Option.some.injEq] at e
    subst e
    exact pair_cells (by rw [List.length_take, List.length_drop]; rw [hlen]; omega) hx)
  have hv' : W.var? Tryd.prog "folio/value.plain" = some cs := hv
  simp only [World.var?, hg, Option.bind_some] at hv'
  split at hv'
  · rename_i c t' fr hh
    cases hv'
    refine ⟨t', fr, ?_⟩
    rw [hh]
    have : cs = plainCells := Array.toList_inj.1 (by rw [hcs]; rfl)
    rw [this]
  · cases hv'

/-- A slice of texts that came in. -/
theorem open_txt {H : Type} {enc : TypeId × Value → H} {W : World} {f : Nat} {v : Value} {x : DataW H × List MemPlace} (h : DataW.trod enc Tryd.prog W 0 (fun _ => true) true f 40 [v] = some x) :
    ∃ p cap, ∃ ts : List ByteArray, v = .slice p ts.length cap ∧ TxtAt W p ts ∧ FitT ts := by
  rcases open_strings Tryd.underlying40 Tryd.underlying9 Tryd.cellsStr h with ⟨hcs, _⟩ | ⟨a, l, c, ss, hcs, _, hl, hm, hz, _, hcell, hws⟩
  · simp at hcs
    exact ⟨none, 0, [], hcs, Or.inl rfl, by unfold maxLen; simp, fun t ht => by simp at ht⟩
  · simp at hcs
    have hz' : ss.length = c := by simpa using hz
    have hlen : (ss.take l).length = l := by rw [List.length_take]; omega
    refine ⟨some a, c, ss.take l, by rw [hlen]; exact hcs, ?_, by omega, fun t ht => hws t (List.mem_of_mem_take ht)⟩
    by_cases h0 : l = 0
    · subst h0; exact Or.inl rfl
    · right
      have hc0 := hcell 0 (by omega)
      obtain ⟨b, off, spot⟩ := a
      have hspot : spot = none := by simpa [Addr.add] using World.cell?_spot hc0
      subst hspot
      refine ⟨b, off, rfl, fun i hi => ?_⟩
      rw [hlen] at hi
      have := hcell i (by omega)
      rw [addr_add] at this
      rw [this, List.getElem_take, List.getD_eq_getElem?_getD, List.getElem?_eq_getElem (by omega)]
      rfl

set_option maxRecDepth 100000 in
/-- A slice of fields that came in. -/
theorem open_fields {H : Type} {enc : TypeId × Value → H} {W : World} {b0 : Nat} {v : Value} {dd : DataW H} {p : List MemPlace}
    (hv : Value.okWide Tryd.prog W .any b0 22 v) (h : DataW.Trod enc Tryd.prog W 0 (fun _ => true) true 22 v dd p) : ∃ d : List Fx, IsXs W v d ∧ FitX d := by
  obtain ⟨a0, len, cap, rfl⟩ := okWide_slice Tryd.underlying22 hv
  obtain ⟨fuel, hf⟩ := h
  rcases open_slice_pairs Tryd.underlying22 Tryd.underlying45 Tryd.cellsFld rfl rfl Tryd.cellsStr Tryd.cellsStrs hf with ⟨hcs, _⟩ | ⟨a, l, c, m, n, V0, V1, D0, D1, P0, P1, hcs, _, hl, hm, hmm, hdat, hall⟩
  · simp [Value.cells] at hcs
    obtain ⟨rfl, rfl, rfl⟩ := hcs
    exact ⟨[], ⟨none, 0, rfl, Or.inl rfl, fun x hx => by simp at hx⟩, by unfold maxLen; simp, fun x hx => by simp at hx⟩
  · simp [Value.cells] at hcs
    obtain ⟨rfl, rfl, rfl⟩ := hcs
    have hm' : m = cap := by simpa using hmm
    subst hm'
    have each : ∀ i, i < m → ∃ x : Fx, V0 i = .string x.name ∧ V1 i = x.sl ∧ TxtAt W x.p x.txt ∧ FitF x.fld := by
      intro i hi
      obtain ⟨_, _, h3, h4⟩ := hall i hi
      obtain ⟨s, e0, _, hs⟩ := DataW.trod_string Tryd.underlying9 h3
      simp only [List.cons.injEq, and_true] at e0
      obtain ⟨q, cc, ts, e1, ht, hft⟩ := open_txt h4
      exact ⟨⟨s, q, cc, ts⟩, e0, e1, ht, hs, hft⟩
    by_cases h0 : len = 0
    · subst h0
      exact ⟨[], ⟨_, _, rfl, Or.inl rfl, fun x hx => by simp at hx⟩, by unfold maxLen; simp, fun x hx => by simp at hx⟩
    · have hc0 := (hall 0 (by omega)).1
      obtain ⟨b, off, spot⟩ := a
      have hspot : spot = none := by simpa [Addr.add] using World.cell?_spot hc0
      subst hspot
      let f : Nat → Fx := fun i => if h : i < m then (each i h).choose else default
      have fs : ∀ i (h : i < m), V0 i = .string (f i).name ∧ V1 i = (f i).sl ∧ TxtAt W (f i).p (f i).txt ∧ FitF (f i).fld := fun i h => by
        have e : f i = (each i h).choose := dif_pos h
        rw [e]
        exact (each i h).choose_spec
      have hlen : ((List.range len).map f).length = len := by simp
      refine ⟨(List.range len).map f, ⟨_, m, by rw [hlen], Or.inr ⟨b, off, rfl, fun i hi => ?_⟩, fun x hx => ?_⟩, by rw [hlen]; omega, fun x hx => ?_⟩
      · have hi0 : i < len := by simpa using hi
        obtain ⟨h1, h2, _, _⟩ := hall i (by omega)
        obtain ⟨g1, g2, _⟩ := fs i (by omega)
        rw [addr_add] at h1 h2
        have ef : ((List.range len).map f)[i]'hi = f i := by simp
        rw [ef, h1, ← g1]
        refine ⟨rfl, ?_⟩
        rw [Nat.add_assoc, h2, g2]
      · obtain ⟨i, hi, rfl⟩ := List.mem_map.1 hx
        exact (fs i (by have := List.mem_range.1 hi; omega)).2.2.1
      · obtain ⟨i, hi, rfl⟩ := List.mem_map.1 hx
        exact (fs i (by have := List.mem_range.1 hi; omega)).2.2.2

set_option maxRecDepth 100000 in
/-- A slice of bytes that came in. -/
theorem open_bytes {H : Type} {enc : TypeId × Value → H} {W : World} {b0 : Nat} {v : Value} {dd : DataW H} {p : List MemPlace}
    (hv : Value.okWide Tryd.prog W .any b0 29 v) (h : DataW.Trod enc Tryd.prog W 0 (fun _ => true) true 29 v dd p) : ∃ l : List UInt8, RestAt W.heap.size W v l := by
  obtain ⟨a0, len, cap, rfl⟩ := okWide_slice Tryd.underlying29 hv
  obtain ⟨fuel, hf⟩ := h
  rcases open_ints Tryd.underlying29 Tryd.underlying5 Tryd.cellsByte hf with ⟨hcs, _⟩ | ⟨a, l, c, zs, hcs, _, hl, hm, hz, _, hcell, hws⟩
  · simp [Value.cells] at hcs
    obtain ⟨rfl, rfl, rfl⟩ := hcs
    exact ⟨[], none, 0, rfl, by simp, by unfold maxLen; omega, Or.inl rfl⟩
  · simp [Value.cells] at hcs
    obtain ⟨rfl, rfl, rfl⟩ := hcs
    have hz' : zs.length = cap := by simpa using hz
    have hlen : ((zs.take len).map fun z => UInt8.ofNat z.toNat).length = len := by rw [List.length_map, List.length_take]; omega
    refine ⟨(zs.take len).map fun z => UInt8.ofNat z.toNat, some a, cap, by rw [hlen], by rw [hlen]; exact hl, hm, ?_⟩
    by_cases h0 : len = 0
    · subst h0; exact Or.inl (by simp)
    · right
      have hc0 := hcell 0 (by omega)
      obtain ⟨b, off, spot⟩ := a
      have hspot : spot = none := by simpa [Addr.add] using World.cell?_spot hc0
      subst hspot
      refine ⟨b, off, rfl, ?_, fun i hi => ?_⟩
      · have := cell_block hc0
        simpa [Addr.add] using this
      · rw [hlen] at hi
        have := hcell i (by omega)
        rw [addr_add, List.getD_eq_getElem?_getD, List.getElem?_eq_getElem (by omega)] at this
        rw [this]
        have hw := hws _ (List.getElem_mem (show i < zs.length by omega))
        have hb : 0 ≤ zs[i] ∧ zs[i] ≤ 255 := by simpa [Lit.wf, IntKind.min, IntKind.max, IntKind.signed, IntKind.bits] using hw
        simp
        omega

end Go.Proofs.YtmjchokacmbkoaaDoor

/-
  What the bound of a second form gives: how great an argument can be.
-/
namespace Go.Proofs.YtmjchokacmbkoaaDoor
open Go.ChangeShapes Go.WideShapes Go.ChangeAt Go.RowKit Go.Lib Go.Deep

theorem bulk_pos {H : Type} (d : DataW H) : 1 ≤ Rows.uptoBulk d := by
  cases d with
  | lit l => cases l <;> simp [Rows.uptoBulk]
  | nil => simp [Rows.uptoBulk]
  | ptr d => simp [Rows.uptoBulk]
  | slice elems spare => simp [Rows.uptoBulk]
  | agg parts => simp [Rows.uptoBulk]
  | iface t d => simp [Rows.uptoBulk]
  | map entries => simp [Rows.uptoBulk]
  | held h => simp [Rows.uptoBulk]

theorem bulk_sum {H : Type} (l : List (DataW H)) : Rows.uptoBulkAll l = (l.map Rows.uptoBulk).sum := by
  induction l with
  | nil => simp [Rows.uptoBulkAll]
  | cons x r ih => simp [Rows.uptoBulkAll, ih]

theorem bulk_mem {H : Type} {d : DataW H} {l : List (DataW H)} (h : d ∈ l) : Rows.uptoBulk d ≤ Rows.uptoBulkAll l := by
  induction l with
  | nil => cases h
  | cons x r ih =>
    simp only [Rows.uptoBulkAll]
    rcases List.mem_cons.1 h with rfl | h
    · omega
    · have := ih h; omega

theorem bulk_len {H : Type} (l : List (DataW H)) : l.length ≤ Rows.uptoBulkAll l := by
  induction l with
  | nil => simp [Rows.uptoBulkAll]
  | cons x r ih => have := bulk_pos x; simp only [Rows.uptoBulkAll, List.length_cons]; omega

theorem bulk_small {H : Type} {l : List (DataW H)} (hk : Rows.uptoSmall H l = true) : Rows.uptoBulkAll l ≤ 1048576 := of_decide_eq_true hk

/-- A slice of texts that came in, and its bulk. -/
theorem open_txtU {H : Type} {enc : TypeId × Value → H} {W : World} {f : Nat} {v : Value} {x : DataW H × List MemPlace} (h : DataW.trod enc Tryd.prog W 0 (fun _ => true) true f 40 [v] = some x) :
    ∃ p cap, ∃ ts : List ByteArray, v = .slice p ts.length cap ∧ TxtAt W p ts ∧ FitT ts ∧ ts.length + 1 ≤ Rows.uptoBulk x.1 ∧ ∀ t ∈ ts, t.size ≤ Rows.uptoBulk x.1 := by
  rcases open_strings Tryd.underlying40 Tryd.underlying9 Tryd.cellsStr h with ⟨hcs, hx⟩ | ⟨a, l, c, ss, hcs, _, hl, hm, hz, hx, hcell, hws⟩
  · simp at hcs
    exact ⟨none, 0, [], hcs, Or.inl rfl, ⟨by unfold maxLen; simp, fun t ht => by simp at ht⟩, by rw [hx]; simp [Rows.uptoBulk], fun t ht => by simp at ht⟩
  · simp at hcs
    have hz' : ss.length = c := by simpa using hz
    have hlen : (ss.take l).length = l := by rw [List.length_take]; omega
    have hb1 := bulk_len (strs (ss.take l) : List (DataW H))
    have hb2 : (strs (ss.take l) : List (DataW H)).length = l := by rw [show (strs (ss.take l) : List (DataW H)).length = (ss.take l).length by simp [strs], hlen]
    refine ⟨some a, c, ss.take l, by rw [hlen]; exact hcs, ?_, ⟨by omega, fun t ht => hws t (List.mem_of_mem_take ht)⟩, ?_, fun t ht => ?_⟩
    · by_cases h0 : l = 0
      · subst h0; exact Or.inl rfl
      · right
        have hc0 := hcell 0 (by omega)
        obtain ⟨b, off, spot⟩ := a
        have hspot : spot = none := by simpa [Addr.add] using World.cell?_spot hc0
        subst hspot
        refine ⟨b, off, rfl, fun i hi => ?_⟩
        rw [hlen] at hi
        have := hcell i (by omega)
        rw [addr_add] at this
        rw [this, List.getElem_take, List.getD_eq_getElem?_getD, List.getElem?_eq_getElem (by omega)]
        rfl
    · rw [hx, hlen]
      simp only [Rows.uptoBulk]
      omega
    · rw [hx]
      simp only [Rows.uptoBulk]
      have hm' : (DataW.lit (.string t.data.toList) : DataW H) ∈ strs (ss.take l) := by
        unfold strs
        exact List.mem_map.2 ⟨t, ht, rfl⟩
      have := bulk_mem hm'
      simp only [Rows.uptoBulk] at this
      have e : t.data.toList.length = t.size := by simp
      omega

end Go.Proofs.YtmjchokacmbkoaaDoor

/-
  How long a value's bytes are, and how many blanks its line has.
-/
namespace Go.Proofs.YtmjchokacmbkoaaDoor
open Go.RowKit Go.Lib

/-- What ValueSizes counts. -/
def cntF (f : Fld) : Nat := 2 + f.1.size + (f.2.map fun t => 1 + t.size).sum
def cntB (fs : List Fld) : Nat := 1 + (fs.map cntF).sum

theorem encTs_len (ts : List ByteArray) : (ts.flatMap encT).length = (ts.map fun t => 1 + t.size).sum := by
  induction ts with
  | nil => rfl
  | cons t ts ih =>
    rw [List.flatMap_cons, List.length_append, encT_len, ih, List.map_cons, List.sum_cons]
    omega

theorem encF_cnt (f : Fld) : (encF f).length = cntF f := by
  unfold encF cntF
  rw [List.length_append, List.length_append, encT_len, encTs_len]
  simp only [List.length_cons, List.length_nil]
  omega

theorem encL_cnt (fs : List Fld) : (encL fs).length = cntB fs := by
  unfold encL cntB
  rw [List.length_cons]
  have : (fs.flatMap encF).length = (fs.map cntF).sum := by
    induction fs with
    | nil => rfl
    | cons f fs ih => rw [List.flatMap_cons, List.length_append, encF_cnt, ih, List.map_cons, List.sum_cons]
  omega

/-- The blanks of a text. -/
def blanks (l : List UInt8) : Nat := l.countP fun c => c == 32

theorem blanks_append (a b : List UInt8) : blanks (a ++ b) = blanks a + blanks b := List.countP_append ..

theorem blanks_join : ∀ ws : List (List UInt8), (∀ w ∈ ws, blanks w = 0) → blanks (Lib.join ws [32]) = ws.length - 1
  | [], _ => rfl
  | [w], h => by
    have := h w (by simp)
    simpa [Lib.join] using this
  | w :: v :: ws, h => by
    have h1 := h w (by simp)
    have ih := blanks_join (v :: ws) (fun x hx => h x (by simp [hx]))
    have e : Lib.join (w :: v :: ws) [32] = w ++ [32] ++ Lib.join (v :: ws) [32] := by simp [Lib.join]
    rw [e, blanks_append, blanks_append, h1, ih]
    simp [blanks]
    omega

theorem field_noblank {l : List UInt8} (h : fieldB l = true) : blanks l = 0 := by
  unfold blanks
  rw [List.countP_eq_zero]
  intro c hc
  unfold fieldB spell at h
  cases l with
  | nil => simp at hc
  | cons x r =>
    simp only [Bool.and_eq_true, List.all_eq_true] at h
    have key : lodB (c.toNat : Int) = true ∨ smallB (c.toNat : Int) = true := by
      rcases List.mem_cons.1 hc with rfl | hc
      · exact Or.inr h.1.2
      · exact Or.inl (h.2 c hc)
    intro e
    have e : c = 32 := by simpa using e
    subst e
    rcases key with k | k
    · revert k; decide
    · revert k; decide

theorem hexd_noblank (k : Nat) (h : k < 16) : (hexd k == 32) = false := by
  have t : ((List.range 16).all fun k => !(hexd k == 32)) = true := by decide
  have := List.all_eq_true.1 t k (List.mem_range.2 h)
  simpa using this

theorem write_noblank (l : List UInt8) : blanks (writeL l) = 0 := by
  induction l with
  | nil => rfl
  | cons c l ih =>
    rw [writeL_cons, blanks_append, ih]
    unfold writeC
    cases hp : plainB (c.toNat : Int) with
    | true =>
      have : (c == 32) = false := by
        rw [beq_eq_false_iff_ne]
        intro e
        subst e
        revert hp; decide
      simp [blanks, this]
    | false =>
      have hc := c.toNat_lt
      simp [blanks, hexd_noblank (c.toNat / 16) (by omega), hexd_noblank (c.toNat % 16) (by omega)]

theorem word_data (n t : ByteArray) : (wordOf n t).data.toList = n.data.toList ++ [61] ++ writeL t.data.toList := by
  unfold wordOf
  obtain ⟨⟨n⟩⟩ := n
  simp

theorem word_noblank {n t : ByteArray} (h : fieldB n.data.toList = true) : blanks (wordOf n t).data.toList = 0 := by
  rw [word_data, blanks_append, blanks_append, field_noblank h, write_noblank]
  rfl

theorem words_cnt (fs : List Fld) : (wordsL fs).length = totF fs := by
  unfold wordsL totF
  induction fs with
  | nil => rfl
  | cons f fs ih => rw [List.flatMap_cons, List.length_append, ih]; simp [wordsF]

theorem line_blanks {fs : List Fld} (h : mayB fs = true) : blanks (lineOf fs).data.toList = totF fs - 1 := by
  unfold lineOf
  show blanks (Lib.join ((wordsL fs).map (·.data.toList)) [32]).toArray.toList = _
  rw [List.toList_toArray, blanks_join, List.length_map, words_cnt]
  intro w hw
  obtain ⟨x, hx, rfl⟩ := List.mem_map.1 hw
  obtain ⟨f, hf, hx⟩ := List.mem_flatMap.1 hx
  obtain ⟨t, _, rfl⟩ := List.mem_map.1 hx
  exact word_noblank (fits_parts (may_fits h f hf)).2.2.2.2

theorem line_empty (fs : List Fld) : (lineOf fs).size = 0 ↔ totF fs = 0 := by
  have e : (lineOf fs).size = (Lib.join ((wordsL fs).map (·.data.toList)) [32]).length := by
    show (Lib.join ((wordsL fs).map (·.data.toList)) [32]).toArray.size = _
    simp
  rw [e, ← words_cnt]
  cases hw : wordsL fs with
  | nil => simp [Lib.join, List.intercalate]
  | cons x r =>
    have hx : x ∈ wordsL fs := by rw [hw]; simp
    obtain ⟨f, hf, hx⟩ := List.mem_flatMap.1 hx
    obtain ⟨t, _, rfl⟩ := List.mem_map.1 hx
    have hl : 0 < (wordOf f.1 t).data.toList.length := by rw [word_data]; simp; omega
    constructor
    · intro h
      exfalso
      cases r with
      | nil =>
        rw [List.map_cons, List.map_nil, Lib.join_one] at h
        omega
      | cons y r =>
        have : Lib.join ((wordOf f.1 t :: y :: r).map (·.data.toList)) [32] = (wordOf f.1 t).data.toList ++ [32] ++ Lib.join ((y :: r).map (·.data.toList)) [32] := by simp [Lib.join]
        rw [this] at h
        simp at h
    · intro h; simp at h

theorem join_size (c : Nat) : ∀ ws : List (List UInt8), (∀ w ∈ ws, w.length ≤ c) → (Lib.join ws [32]).length ≤ ws.length * (c + 1)
  | [], _ => by simp [Lib.join, List.intercalate]
  | [w], h => by
    have := h w (by simp)
    rw [Lib.join_one]
    simp
    omega
  | w :: v :: ws, h => by
    have h1 := h w (by simp)
    have ih := join_size c (v :: ws) (fun x hx => h x (by simp [hx]))
    have e : Lib.join (w :: v :: ws) [32] = w ++ [32] ++ Lib.join (v :: ws) [32] := by simp [Lib.join]
    have e2 : (w :: v :: ws).length * (c + 1) = (v :: ws).length * (c + 1) + (c + 1) := by rw [List.length_cons, Nat.add_mul, Nat.one_mul]
    have e3 : ([32] : List UInt8).length = 1 := rfl
    rw [e, List.length_append, List.length_append, e2, e3]
    omega

theorem line_size {fs : List Fld} (h : mayB fs = true) : (lineOf fs).size ≤ 53504 := by
  have e : (lineOf fs).size = (Lib.join ((wordsL fs).map (·.data.toList)) [32]).length := by
    show (Lib.join ((wordsL fs).map (·.data.toList)) [32]).toArray.size = _
    simp
  have h1 := join_size 417 ((wordsL fs).map (·.data.toList)) (fun w hw => by
    obtain ⟨x, hx, rfl⟩ := List.mem_map.1 hw
    obtain ⟨f, hf, hx⟩ := List.mem_flatMap.1 hx
    obtain ⟨t, ht, rfl⟩ := List.mem_map.1 hx
    simpa using word_len (may_fits h f hf) ht)
  have h2 := wordsL_len (fun f hf => may_fits h f hf) (may_parts h).1
  rw [List.length_map] at h1
  have h3 : (wordsL fs).length * (417 + 1) ≤ 128 * (417 + 1) := Nat.mul_le_mul_right _ h2
  omega

theorem cnt_small {fs : List Fld} (h : mayB fs = true) (i : Nat) : 1 + ((fs.take i).map cntF).sum ≤ 17057 := by
  have h1 : ((fs.take i).map cntF).sum = ((fs.take i).flatMap encF).length := by
    generalize fs.take i = gs
    induction gs with
    | nil => rfl
    | cons f gs ih => rw [List.flatMap_cons, List.length_append, encF_cnt, ← ih, List.map_cons, List.sum_cons]
  have := enc_ahead h i
  omega

theorem tot_small {fs : List Fld} (h : mayB fs = true) (i : Nat) : totF (fs.take i) ≤ 128 := by
  rw [← words_cnt]
  refine wordsL_len (fun f hf => may_fits h f (List.mem_of_mem_take hf)) ?_
  have := (may_parts h).1
  rw [List.length_take]
  omega

end Go.Proofs.YtmjchokacmbkoaaDoor

/-
  ValueNorms answers true, where the fields and their texts are few enough to be copied.
-/
namespace Go.Proofs.YtmjchokacmbkoaaDoor
open Go.RowKit Go.Lib

theorem bool_same (b : Bool) : (b == b) = true := by cases b <;> rfl

set_option maxHeartbeats 2000000 in
set_option maxRecDepth 100000 in
theorem norms_any (v : Value) (d : List Fx) (w : World) (hp : PlainAt w) (hv : IsXs w v d) (hf : FitX d) (hl : d.length * 40 ≤ 140737488355328) (htot : totF (d.map Fx.fld) * 16 ≤ 140737488355328) :
    Calls Tryd.prog 3 #[v] w fun e w' => e = .returned (.bool true) ∧ Below w.heap.size w w' := by
  have HP := hid hp
  have HV := hid hv
  have HF := hid hf
  have HL := hid hl
  have HTO := hid htot
  clear hp hv hf hl htot
  obtain ⟨B, hB⟩ : ∃ B, mayB (d.map Fx.fld) = B := ⟨_, rfl⟩
  have HB := hid hB
  have hbb := bool_same B
  clear hB
  go_enter Tryd.func3, Tryd.ntmps3
  go_wp2_with (first
    | (go_at_call 9; refine (fixed_any _ HP.out).mono ?_; rintro e w1 ⟨rfl, q1⟩)
    | (go_at_call 10; refine (norm_plain v d w1 (HV.out.kept q1) HF.out HL.out HTO.out).mono ?_; rintro e w2 ⟨⟨u2, d2, rfl, o2, m2⟩, q2⟩; have b2 : Below w.heap.size w w2 := bel_then q1 q1.size q2; have O2 := hid o2; have M2 := hid m2; clear o2 m2)
    | (go_at_call 11; refine (rnorm_plain v d w2 (HV.out.kept b2) HF.out HL.out HTO.out).mono ?_; rintro e w3 ⟨⟨u3, d3, rfl, o3, m3⟩, q3⟩; have b3 : Below w.heap.size w w3 := bel_then b2 b2.size q3; have HSM := hid (same_any u2 u3 d2 d3 (codeF (d.map Fx.fld)) w3 (O2.out.on q3).is o3.is (ans_fit M2.out) (ans_fit m3)); rw [show decide (d2.map Fx.fld = d3.map Fx.fld) = true from decide_eq_true (M2.out.trans m3.symm)] at HSM; clear o3 m3)
    | (go_at_call 12; refine HSM.out.mono ?_; rintro e w4 ⟨rfl, n, rfl⟩; have b4 : Below w.heap.size w (w3.drewN n) := bel_drewN b3 n; have HMY := hid (may_any v d (w3.drewN n) (HV.out.kept b4) HF.out); rw [HB.out] at HMY)
    | (go_at_call 13; refine HMY.out.mono ?_; rintro e w5 ⟨rfl, q5⟩; have b5 : Below w.heap.size w w5 := bel_then b4 b4.size q5.below; have HRY := hid (rmay_any v d w5 (HV.out.kept b5) HF.out); rw [HB.out] at HRY)
    | (go_at_call 14; refine HRY.out.mono ?_; rintro e w6 ⟨rfl, q6⟩))
  go_ret
  exact ⟨rfl, bel_then b5 b5.size q6.below⟩

end Go.Proofs.YtmjchokacmbkoaaDoor

/-
  The contracts of the reference's plain, digit and hex.
-/
namespace Go.Proofs.YtmjchokacmbkoaaDoor
open Go.RowKit

theorem plainB_of (n : Int) (h : plainRuns.any (fun r => decide (r.1 ≤ n) && decide (n ≤ r.2)) = true) : plainB n = true := h

theorem plain_ranges (n : Int) (g0 : (45 == n) = false) (g1 : (46 == n) = false) (g2 : (95 == n) = false) (g3 : (124 == n) = false) (g4 : (42 == n) = false) (g5 : (64 == n) = false) (g6 : (47 == n) = false) (g7 : (58 == n) = false) (g8 : (43 == n) = false) (g9 : (44 == n) = false) :
    plainB n = (decide (48 ≤ n) && decide (n ≤ 57) || decide (65 ≤ n) && decide (n ≤ 90) || decide (97 ≤ n) && decide (n ≤ 122)) := by
  rw [beq_eq_false_iff_ne] at *
  unfold plainB plainRuns
  simp only [List.any_cons, List.any_nil, Bool.or_false]
  have e : ∀ k : Int, k ≠ n → (decide (k ≤ n) && decide (n ≤ k)) = false := fun k hk => by
    rw [Bool.and_eq_false_iff, decide_eq_false_iff_not, decide_eq_false_iff_not]; omega
  rw [e 45 g0, e 46 g1, e 95 g2, e 124 g3, e 42 g4, e 64 g5, e 47 g6, e 58 g7, e 43 g8, e 44 g9]
  simp only [Bool.or_false]
  generalize (decide (97 ≤ n) && decide (n ≤ 122)) = a
  generalize (decide (65 ≤ n) && decide (n ≤ 90)) = b
  generalize (decide (48 ≤ n) && decide (n ≤ 57)) = c
  cases a <;> cases b <;> cases c <;> rfl

set_option maxHeartbeats 4000000 in
set_option maxRecDepth 100000 in
theorem rplain_any (n : Int) (w : World) : Calls Tryd.prog 53 #[.int .u8 n] w fun e w' => e = .returned (.bool (plainB n)) ∧ w' = w := by
  have sign : ∀ k : Nat, k < 10 → ∀ c : Int, ([45, 46, 95, 124, 42, 64, 47, 58, 43, 44] : List Int)[k]? = some c → plainB c = true := by
    intro k hk c hc
    have : ∀ c ∈ ([45, 46, 95, 124, 42, 64, 47, 58, 43, 44] : List Int), plainB c = true := by decide
    exact this c (List.mem_of_getElem? hc)
  by_cases h : ∃ k : Nat, k < 10 ∧ ([45, 46, 95, 124, 42, 64, 47, 58, 43, 44] : List Int)[k]? = some n
  · obtain ⟨k, hk, hn⟩ := h
    have HP := hid (sign k hk n hn)
    clear sign
    have : k = 0 ∨ k = 1 ∨ k = 2 ∨ k = 3 ∨ k = 4 ∨ k = 5 ∨ k = 6 ∨ k = 7 ∨ k = 8 ∨ k = 9 := by omega
    rcases this with rfl | rfl | rfl | rfl | rfl | rfl | rfl | rfl | rfl | rfl
    all_goals
      simp only [List.getElem?_cons_zero, List.getElem?_cons_succ, Option.some.injEq] at hn
      subst hn
      go_enter Tryd.func53, Tryd.ntmps53
      go_wp2
      refine wp_loop_rounds 11 ?_
      repeat (rw [rounds_succ]; go_wp2)
      go_ret
      exact ⟨ret_bool HP.out.symm, rfl⟩
  · have hne : ∀ k : Nat, k < 10 → ∀ c : Int, ([45, 46, 95, 124, 42, 64, 47, 58, 43, 44] : List Int)[k]? = some c → (c == n) = false := fun k hk c hc => by
      rw [beq_eq_false_iff_ne]
      intro e
      subst e
      exact h ⟨k, hk, hc⟩
    have g0 := hne 0 (by decide) 45 rfl; have g1 := hne 1 (by decide) 46 rfl; have g2 := hne 2 (by decide) 95 rfl; have g3 := hne 3 (by decide) 124 rfl; have g4 := hne 4 (by decide) 42 rfl
    have g5 := hne 5 (by decide) 64 rfl; have g6 := hne 6 (by decide) 47 rfl; have g7 := hne 7 (by decide) 58 rfl; have g8 := hne 8 (by decide) 43 rfl; have g9 := hne 9 (by decide) 44 rfl
    have HR := hid (plain_ranges n g0 g1 g2 g3 g4 g5 g6 g7 g8 g9)
    clear hne h sign
    have z0 : ((⟨#[45, 46, 95, 124, 42, 64, 47, 58, 43, 44]⟩ : ByteArray)[0]'(by decide)).toNat = 45 := rfl
    have z1 : ((⟨#[45, 46, 95, 124, 42, 64, 47, 58, 43, 44]⟩ : ByteArray)[1]'(by decide)).toNat = 46 := rfl
    have z2 : ((⟨#[45, 46, 95, 124, 42, 64, 47, 58, 43, 44]⟩ : ByteArray)[2]'(by decide)).toNat = 95 := rfl
    have z3 : ((⟨#[45, 46, 95, 124, 42, 64, 47, 58, 43, 44]⟩ : ByteArray)[3]'(by decide)).toNat = 124 := rfl
    have z4 : ((⟨#[45, 46, 95, 124, 42, 64, 47, 58, 43, 44]⟩ : ByteArray)[4]'(by decide)).toNat = 42 := rfl
    have z5 : ((⟨#[45, 46, 95, 124, 42, 64, 47, 58, 43, 44]⟩ : ByteArray)[5]'(by decide)).toNat = 64 := rfl
    have z6 : ((⟨#[45, 46, 95, 124, 42, 64, 47, 58, 43, 44]⟩ : ByteArray)[6]'(by decide)).toNat = 47 := rfl
    have z7 : ((⟨#[45, 46, 95, 124, 42, 64, 47, 58, 43, 44]⟩ : ByteArray)[7]'(by decide)).toNat = 58 := rfl
    have z8 : ((⟨#[45, 46, 95, 124, 42, 64, 47, 58, 43, 44]⟩ : ByteArray)[8]'(by decide)).toNat = 43 := rfl
    have z9 : ((⟨#[45, 46, 95, 124, 42, 64, 47, 58, 43, 44]⟩ : ByteArray)[9]'(by decide)).toNat = 44 := rfl
    go_enter Tryd.func53, Tryd.ntmps53
    go_wp2
    refine wp_loop_rounds 11 ?_
    repeat (rw [rounds_succ]; go_wp2)
    all_goals go_ret
    all_goals refine ⟨ret_bool ?_, rfl⟩
    all_goals (rw [HR.out, Bool.eq_iff_iff]; first | (simp; omega) | simp | omega)

end Go.Proofs.YtmjchokacmbkoaaDoor

/-
  The contracts of the reference's digit and hex.
-/
namespace Go.Proofs.YtmjchokacmbkoaaDoor
open Go.RowKit

set_option maxHeartbeats 1000000 in
theorem rdigit_any (k : Nat) (hk : k < 16) (w : World) : Calls Tryd.prog 54 #[.int .u8 (k : Nat)] w fun e w' => e = .returned (.int .u8 ((hexd k).toNat : Nat)) ∧ w' = w := by
  have : k = 0 ∨ k = 1 ∨ k = 2 ∨ k = 3 ∨ k = 4 ∨ k = 5 ∨ k = 6 ∨ k = 7 ∨ k = 8 ∨ k = 9 ∨ k = 10 ∨ k = 11 ∨ k = 12 ∨ k = 13 ∨ k = 14 ∨ k = 15 := by omega
  rcases this with rfl | rfl | rfl | rfl | rfl | rfl | rfl | rfl | rfl | rfl | rfl | rfl | rfl | rfl | rfl | rfl
  all_goals
    go_enter Tryd.func54, Tryd.ntmps54
    go_wp2
    go_ret
    exact ⟨rfl, rfl⟩

/-- The number of a digit, or 16. -/
def hexN (c : UInt8) : Nat := if 48 ≤ c.toNat ∧ c.toNat ≤ 57 then c.toNat - 48 else if 97 ≤ c.toNat ∧ c.toNat ≤ 102 then c.toNat - 87 else 16

theorem hexN_table : ((List.range 256).all fun n => decide (hexv (UInt8.ofNat n) = if hexN (UInt8.ofNat n) = 16 then -1 else (hexN (UInt8.ofNat n) : Int))) = true := by kernel_rfl
theorem hexN_eq (c : UInt8) : hexv c = if hexN c = 16 then -1 else (hexN c : Int) := by
  have h := List.all_eq_true.1 hexN_table c.toNat (List.mem_range.2 c.toNat_lt)
  rw [decide_eq_true_eq, UInt8.ofNat_toNat] at h
  exact h
theorem hexN_le (c : UInt8) : hexN c ≤ 16 := by unfold hexN; split <;> (try split) <;> omega

set_option maxHeartbeats 1000000 in
theorem rhex_any (c : UInt8) (w : World) : Calls Tryd.prog 55 #[.int .u8 (c.toNat : Nat)] w fun e w' => e = .returned (.int .u8 (hexN c : Nat)) ∧ w' = w := by
  have hc := c.toNat_lt
  have HN : Hid (hexN c = if 48 ≤ c.toNat ∧ c.toNat ≤ 57 then c.toNat - 48 else if 97 ≤ c.toNat ∧ c.toNat ≤ 102 then c.toNat - 87 else 16) := rfl
  obtain ⟨r, hr⟩ : ∃ r, hexN c = r := ⟨_, rfl⟩
  rw [hr]
  rw [hr] at HN
  clear hr
  by_cases h1 : 48 ≤ c.toNat ∧ c.toNat ≤ 57
  · have a1 : decide ((48 : Int) ≤ (c.toNat : Int)) = true := decide_eq_true (by omega)
    have a2 : decide ((c.toNat : Int) ≤ 57) = true := decide_eq_true (by omega)
    have H : Hid ((c.toNat : Int) - 48 = (r : Int)) := by show _ = _; rw [HN.out, if_pos h1]; omega
    go_enter Tryd.func55, Tryd.ntmps55
    go_wp2
    go_ret
    exact ⟨congrArg (fun z => Ending.returned (.int .u8 z)) H.out, rfl⟩
  · by_cases h2 : 97 ≤ c.toNat ∧ c.toNat ≤ 102
    · have a0 : decide ((48 : Int) ≤ (c.toNat : Int)) = true := decide_eq_true (by omega)
      have a00 : decide ((c.toNat : Int) ≤ 57) = false := decide_eq_false (by omega)
      have a1 : decide ((97 : Int) ≤ (c.toNat : Int)) = true := decide_eq_true (by omega)
      have a2 : decide ((c.toNat : Int) ≤ 102) = true := decide_eq_true (by omega)
      have H : Hid ((c.toNat : Int) - 87 = (r : Int)) := by show _ = _; rw [HN.out, if_neg h1, if_pos h2]; omega
      go_enter Tryd.func55, Tryd.ntmps55
      go_wp2
      go_ret
      exact ⟨congrArg (fun z => Ending.returned (.int .u8 z)) H.out, rfl⟩
    · have H : Hid ((16 : Int) = (r : Int)) := by show _ = _; rw [HN.out, if_neg h1, if_neg h2]; rfl
      clear HN
      by_cases h3 : c.toNat < 48
      · have a1 : decide ((48 : Int) ≤ (c.toNat : Int)) = false := decide_eq_false (by omega)
        have a2 : decide ((97 : Int) ≤ (c.toNat : Int)) = false := decide_eq_false (by omega)
        go_enter Tryd.func55, Tryd.ntmps55
        go_wp2
        go_ret
        exact ⟨congrArg (fun z => Ending.returned (.int .u8 z)) H.out, rfl⟩
      · have a1 : decide ((48 : Int) ≤ (c.toNat : Int)) = true := decide_eq_true (by omega)
        have a2 : decide ((c.toNat : Int) ≤ 57) = false := decide_eq_false (by omega)
        by_cases h4 : c.toNat < 97
        · have a3 : decide ((97 : Int) ≤ (c.toNat : Int)) = false := decide_eq_false (by omega)
          go_enter Tryd.func55, Tryd.ntmps55
          go_wp2
          go_ret
          exact ⟨congrArg (fun z => Ending.returned (.int .u8 z)) H.out, rfl⟩
        · have a3 : decide ((97 : Int) ≤ (c.toNat : Int)) = true := decide_eq_true (by omega)
          have a4 : decide ((c.toNat : Int) ≤ 102) = false := decide_eq_false (by omega)
          go_enter Tryd.func55, Tryd.ntmps55
          go_wp2
          go_ret
          exact ⟨congrArg (fun z => Ending.returned (.int .u8 z)) H.out, rfl⟩

end Go.Proofs.YtmjchokacmbkoaaDoor

/-
  The contracts of the reference's put and Encode.
-/
namespace Go.Proofs.YtmjchokacmbkoaaDoor
open Go.RowKit

theorem new_byte (w : World) (c : Int) : ∀ j u, ([.int .u8 c] : List Value)[j]? = some u → (w.alloc (.cells #[.int .u8 c] 5)).cell? ((⟨w.heap.size, 0, none⟩ : Addr).add j) = some u := by
  intro j u hj
  match j, hj with
  | 0, hj => simp at hj; subst hj; simp [Addr.add]

theorem one_byte (c : Int) : ∀ u ∈ ([.int .u8 c] : List Value), u.oneCell' = true := by intro u hu; simp at hu; subst hu; rfl

theorem ownB_put {n0 : Nat} {w : World} {v : Value} {bs : List UInt8} {c : UInt8} {k : Int} {n : Nat} (h : w.ownsRow n0 5 1 v n (Lib.byteCells bs ++ [.int .u8 k])) (hn : n = bs.length + 1) (hk : (c.toNat : Int) = k) : OwnB n0 w v (bs ++ [c]) := by
  subst hn
  unfold OwnB
  have e2 : Lib.byteCells (bs ++ [c]) = Lib.byteCells bs ++ [.int .u8 k] := by simp [Lib.byteCells, hk]
  rw [e2, List.length_append]
  exact h

set_option maxHeartbeats 2000000 in
set_option maxRecDepth 100000 in
theorem rput_any (n0 : Nat) (v : Value) (bs : List UInt8) (t : ByteArray) (w : World) (hown : OwnB n0 w v bs) (hn : n0 ≤ w.heap.size) (hs : bs.length + 1 + t.size ≤ 140737488355328) :
    Calls Tryd.prog 38 #[v, .string t] w fun e w' => ∃ v', e = .returned v' ∧ OwnB n0 w' v' (bs ++ encT t) ∧ Below n0 w w' := by
  obtain ⟨i0, hi, hz0, hz1, hz2⟩ := info_parts Tryd.infoByte
  have HO := hid hown
  unfold OwnB at hown
  go_enter Tryd.func38, Tryd.ntmps38
  go_wp2_with (at_builtin; refine wpList_append_own _ rfl _ _ 29 rfl n0 5 i0 (.int .u8 0) 1 1 Tryd.underlying29 hi hz0 hz1 hz2 rfl (by decide) _ _ _ rfl (hown.alloc _) ⟨w.heap.size, 0, none⟩ 1 1 [.int .u8 ((t.size : Int) % 256)] rfl rfl (new_byte _ _) (one_byte _) (by unfold maxLen; omega) (by omega) (by simp; omega) ?_)
  intro v1 w1 hown1 hg1 _
  have hb1 : Below n0 w w1 := ((Below.refl n0 w).alloc hn _).grown hg1 (by simp; omega) (fun k hk => (hown.lt k hk).1)
  have hob1 : OwnB n0 w1 v1 (bs ++ [UInt8.ofNat t.size]) := ownB_put hown1 rfl (by simp)
  have HB1 := hid hb1
  have HOB1 := hid hob1
  have HI := hid hi
  clear hown1 hg1 hb1 hob1 hown hi
  go_wp2_with fail
  go_loopg [0, 5] t.size (fun g vb vi wr => ∃ i : Nat, vi = .int .i64 i ∧ i ≤ t.size ∧ t.size - i ≤ g ∧ Below n0 w wr ∧ OwnB n0 wr vb (bs ++ [UInt8.ofNat t.size] ++ t.data.toList.take i))
  case atStart => exact ⟨0, rfl, by omega, by omega, HB1.out, by simpa using HOB1.out⟩
  case round =>
    obtain ⟨i, rfl, hi, hgk, hb, hob⟩ := hrel
    by_cases hlt : i < t.size
    · have hltz : (i : Int) < (t.size : Int) := by omega
      have hiz : (0 : Int) ≤ i := by omega
      have hsz := hb.size
      have htk : t.data.toList.take (i + 1) = t.data.toList.take i ++ [t[i]] := by
        rw [List.take_succ_eq_append_getElem (by simpa using hlt)]
        rfl
      obtain ⟨acc, hacc⟩ : ∃ acc, bs ++ [UInt8.ofNat t.size] ++ t.data.toList.take i = acc := ⟨_, rfl⟩
      have hal : acc.length = bs.length + 1 + i := by
        rw [← hacc, List.length_append, List.length_append, List.length_take]
        simp
        omega
      rw [hacc] at hob
      have HACC := hid hacc
      have HOB := hid hob
      have HB := hid hb
      have HTK := hid htk
      clear hacc hob hb htk
      go_wp2_with (at_builtin; refine wpList_append_own _ rfl _ _ 29 rfl n0 5 i0 (.int .u8 0) 1 1 Tryd.underlying29 HI.out hz0 hz1 hz2 rfl (by decide) _ _ _ rfl (World.ownsRow.alloc HOB.out _) ⟨wr.heap.size, 0, none⟩ 1 1 [.int .u8 (t[i].toNat : Int)] rfl rfl (new_byte _ _) (one_byte _) (by unfold maxLen; omega) (by omega) (by simp; omega) ?_)
      intro v3 w3 hown3 hg3 _
      have hob3 : OwnB n0 w3 v3 (acc ++ [t[i]]) := ownB_put hown3 (by omega) rfl
      have hb3 : Below n0 w w3 := (HB.out.alloc (by omega) _).grown hg3 (by simp; omega) (fun k hk => (World.ownsRow.lt HOB.out k hk).1)
      have HOB3 := hid hob3
      have HB3 := hid hb3
      clear hown3 hg3 hob3 hb3
      go_wp2_with fail
      go_roundg (t.size - (i + 1))
      case measure => omega
      refine ⟨i + 1, by go_num, by omega, by omega, HB3.out, ?_⟩
      rw [HTK.out, ← List.append_assoc, HACC.out]
      exact HOB3.out
    · have hltz : ¬ (i : Int) < (t.size : Int) := by omega
      have htk2 : t.data.toList.take i = t.data.toList := List.take_of_length_le (by simp; omega)
      rw [htk2] at hob
      have HOJ := hid hob
      clear hob htk2
      go_wp2_with fail
      go_ret
      refine ⟨_, rfl, ?_, hb⟩
      have e : bs ++ encT t = bs ++ [UInt8.ofNat t.size] ++ t.data.toList := by simp [encT]
      rw [e]
      exact HOJ.out

set_option maxHeartbeats 4000000 in
set_option maxRecDepth 100000 in
theorem rencode_no (v : Value) (d : List Fx) (w : World) (hv : IsXs w v d) (hf : FitX d) (hm : mayB (d.map Fx.fld) = false) :
    Calls Tryd.prog 16 #[v] w fun e w' => e = .returned (.tuple #[.slice none 0 0, .int .i64 3]) ∧ Grown w w' := by
  have HM := hid (rmay_any v d w hv hf)
  rw [hm] at HM
  clear hv
  go_enter Tryd.func16, Tryd.ntmps16
  go_wp2_with (first | (go_at_call 14; refine HM.out.mono ?_; rintro e w1 ⟨rfl, hg⟩))
  go_ret2
  exact ⟨rfl, hg⟩

set_option maxHeartbeats 4000000 in
set_option maxRecDepth 100000 in
theorem rencode_yes (v : Value) (d : List Fx) (w : World) (hv : IsXs w v d) (hf : FitX d) (hm : mayB (d.map Fx.fld) = true) :
    Calls Tryd.prog 16 #[v] w fun e w' => (∃ u, e = .returned (.tuple #[u, .int .i64 0]) ∧ OwnB w.heap.size w' u (encL (d.map Fx.fld))) ∧ Below w.heap.size w w' := by
  have HM := hid (rmay_any v d w hv hf)
  rw [hm] at HM
  obtain ⟨i0, hi, hz0, hz1, hz2⟩ := info_parts Tryd.infoByte
  obtain ⟨p, cap, rfl, hd, ht⟩ := hv
  have HT := hid ht
  have HF := hid hf.2
  have hl := hf.1
  unfold maxLen at hl
  have HD := hid hd
  have HI := hid hi
  clear hi
  have HMM := hid hm
  clear ht hf hd hm
  go_enter Tryd.func16, Tryd.ntmps16
  go_wp2_with (first | (go_at_call 14; refine HM.out.mono ?_; rintro e w1 ⟨rfl, hg⟩))
  go_loopg [4, 5] d.length (fun g vb vi wr => ∃ i : Nat, vi = .int .i64 i ∧ i ≤ d.length ∧ d.length - i ≤ g ∧ Below w.heap.size w wr ∧ OwnB w.heap.size wr vb (UInt8.ofNat d.length :: ((d.map Fx.fld).take i).flatMap encF))
  case atStart =>
    refine ⟨0, rfl, by omega, by omega, (hg.below).alloc hg.below.size _, ?_⟩
    have := World.ownsRow_lit (base := w.heap.size) (e := 5) (size := 1) w1 #[.int .u8 ((d.length : Int) % 256)] 1 hg.below.size (by decide) rfl
    unfold OwnB
    simpa [Lib.byteCells] using this
  case round =>
    obtain ⟨i, rfl, hi, hgk, hb, hob⟩ := hrel
    by_cases hlt : i < d.length
    · have hltz : (i : Int) < (d.length : Int) := by omega
      have hiz : (0 : Int) ≤ i := by omega
      obtain ⟨b, off, rfl, hxs⟩ : ∃ b off, p = some ⟨b, off, none⟩ ∧ XsAt w b off d := by
        rcases HD.out with h | h
        · subst h; simp at hlt
        · exact h
      obtain ⟨a0, a1⟩ := hxs i hlt
      obtain ⟨c0, c1⟩ := hxs.kept hb i hlt
      have hxi : (d[i]).at w := HT.out _ (List.getElem_mem hlt)
      have hfi : fitsB (d[i]).fld = true := may_fits HMM.out _ (List.mem_map.2 ⟨_, List.getElem_mem hlt, rfl⟩)
      have htk : ((d.map Fx.fld).take (i + 1)).flatMap encF = ((d.map Fx.fld).take i).flatMap encF ++ encF (d[i]).fld := by
        rw [List.take_succ_eq_append_getElem (by rw [List.length_map]; exact hlt), List.flatMap_append]
        simp
      obtain ⟨x, hx⟩ : ∃ x, d[i] = x := ⟨_, rfl⟩
      rw [hx] at a0 a1 c0 c1 hxi hfi htk
      obtain ⟨b2, off2, hp2, ht2⟩ : ∃ b off, x.p = some ⟨b, off, none⟩ ∧ ∀ i, (h : i < x.txt.length) → w.cell? ⟨b, off + i, none⟩ = some (.string x.txt[i]) := by
        rcases hxi with h | h
        · have := (fits_parts hfi).2.1
          simp only [Fx.fld] at this
          rw [h] at this; simp at this
        · exact h
      have HT2 := hid ht2
      have HFI := hid hfi
      have HTK := hid htk
      have hal := enc_ahead HMM.out i
      obtain ⟨acc, hacc⟩ : ∃ acc, UInt8.ofNat d.length :: ((d.map Fx.fld).take i).flatMap encF = acc := ⟨_, rfl⟩
      have hacl : acc.length ≤ 17057 := by rw [← hacc, List.length_cons]; omega
      rw [hacc] at hob
      obtain ⟨hn32, _, hn8, _⟩ := fits_parts hfi
      have HOB := hid hob
      have HACC := hid hacc
      have HB := hid hb
      have hsz := hb.size
      unfold Fx.sl at c1 a1
      rw [hp2] at c1 a1
      have FA : Hid (∀ W, Below w.heap.size w W → W.cell? ⟨b, off + i * 2 + 1, none⟩ = some (.slice (some ⟨b2, off2, none⟩) x.txt.length x.cap)) := fun W h => (h.cell (p := ⟨b, off + i * 2 + 1, none⟩) (cell_block a1)).trans a1
      clear hxs hxi hx htk hal hacc hob hfi ht2 a0 a1 hb
      clear hp2
      simp only [Fx.fld] at hn32 hn8
      go_wp2_with (first | (go_at_call 38; refine (rput_any w.heap.size _ acc _ _ HOB.out hsz (by omega)).mono ?_; rintro e w2 ⟨v2, rfl, hob2, hb2⟩; have hbw : Below w.heap.size w w2 := HB.out.trans hb2; have g1 := FA.out _ hbw; have hsz2 := hbw.size) | (at_builtin; refine wpList_append_own _ rfl _ _ 29 rfl w.heap.size 5 i0 (.int .u8 0) 1 1 Tryd.underlying29 HI.out hz0 hz1 hz2 rfl (by decide) _ _ _ rfl (World.ownsRow.alloc hob2 _) ⟨w2.heap.size, 0, none⟩ 1 1 [.int .u8 (x.txt.length : Int)] rfl rfl (new_byte _ _) (one_byte _) ?c3 ?c4 ?c5 ?_))
      case c3 => unfold maxLen; simp [encT_len]; omega
      case c4 => simp [encT_len]; omega
      case c5 => simp; omega
      intro v3 w3 hown3 hg3 _
      have hbw3 : Below w.heap.size w w3 := (hbw.alloc hbw.size _).grown hg3 (by simp; omega) (fun k hk => (World.ownsRow.lt hob2 k hk).1)
      have hob3 : OwnB w.heap.size w3 v3 (acc ++ encT x.name ++ [UInt8.ofNat x.txt.length]) := ownB_put hown3 (by simp) (by simp; omega)
      have HOB3 := hid hob3
      have HBW3 := hid hbw3
      clear hown3 hg3 hob2 hbw hob3 hbw3 hb2 g1 c0 c1 hsz2
      obtain ⟨ac2, hac2⟩ : ∃ ac2, acc ++ encT x.name ++ [UInt8.ofNat x.txt.length] = ac2 := ⟨_, rfl⟩
      have hac2l : ac2.length ≤ 17100 := by rw [← hac2]; simp [encT_len]; omega
      have HAC2 := hid hac2
      rw [hac2] at HOB3
      clear hac2
      go_wp2_with fail
      go_loopg [4, 6] x.txt.length (fun g vb vj wr2 => ∃ j : Nat, vj = .int .i64 j ∧ j ≤ x.txt.length ∧ x.txt.length - j ≤ g ∧ Below w.heap.size w wr2 ∧ OwnB w.heap.size wr2 vb (ac2 ++ (x.txt.take j).flatMap encT))
      case atStart => exact ⟨0, rfl, by omega, by omega, HBW3.out, by simpa using HOB3.out⟩
      case round =>
        obtain ⟨j, rfl, hj, hgj, hbj, hobj⟩ := hrel
        have g2 := FA.out _ hbj
        by_cases hlj : j < x.txt.length
        · have hljz : (j : Int) < (x.txt.length : Int) := by omega
          have hjz : (0 : Int) ≤ j := by omega
          have t0 : wr.cell? ⟨b2, off2 + j, none⟩ = some (.string x.txt[j]) := (hbj.cell (p := ⟨b2, off2 + j, none⟩) (cell_block (HT2.out j hlj))).trans (HT2.out j hlj)
          have hts : x.txt[j].size ≤ 128 := (fits_parts HFI.out).2.2.2.1 _ (List.getElem_mem hlj)
          have htl := fits_texts HFI.out j
          simp only [Fx.fld] at htl
          have hstep : (x.txt.take (j + 1)).flatMap encT = (x.txt.take j).flatMap encT ++ encT x.txt[j] := by
            rw [List.take_succ_eq_append_getElem hlj, List.flatMap_append]; simp
          obtain ⟨t, hte⟩ : ∃ t, x.txt[j] = t := ⟨_, rfl⟩
          rw [hte] at t0 hts hstep
          have HST := hid hstep
          have HOJ := hid hobj
          have HBJ := hid hbj
          have hszj := hbj.size
          clear hte hstep hobj hbj
          go_wp2_with (first | (go_at_call 38; refine (rput_any w.heap.size _ _ _ _ HOJ.out hszj (by rw [List.length_append]; omega)).mono ?_; rintro e w4 ⟨v4, rfl, hob4, hb4⟩))
          go_roundg (x.txt.length - (j + 1))
          case measure => omega
          refine ⟨j + 1, by go_num, by omega, by omega, HBJ.out.trans hb4, ?_⟩
          rw [HST.out, ← List.append_assoc]
          exact hob4
        · have hljz : ¬ (j : Int) < (x.txt.length : Int) := by omega
          have htk2 : x.txt.take j = x.txt := List.take_of_length_le (by omega)
          rw [htk2] at hobj
          have HOJ := hid hobj
          have HBJ := hid hbj
          clear hobj hbj htk2
          go_wp2_with fail
          go_roundg (d.length - (i + 1))
          case measure => omega
          refine ⟨i + 1, by go_num, by omega, by omega, HBJ.out, ?_⟩
          rw [HTK.out]
          have e3 : UInt8.ofNat d.length :: (((d.map Fx.fld).take i).flatMap encF ++ encF x.fld) = ac2 ++ x.txt.flatMap encT := by
            rw [← HAC2.out, ← HACC.out]
            simp [encF, Fx.fld]
          rw [e3]
          exact HOJ.out
    · have hltz : ¬ (i : Int) < (d.length : Int) := by omega
      have htk2 : (d.map Fx.fld).take i = d.map Fx.fld := List.take_of_length_le (by rw [List.length_map]; omega)
      rw [htk2] at hob
      have HOJ := hid hob
      clear hob htk2
      go_wp2_with fail
      go_ret2
      refine ⟨⟨_, rfl, ?_⟩, hb⟩
      unfold encL
      rw [List.length_map]
      exact HOJ.out

end Go.Proofs.YtmjchokacmbkoaaDoor

/-
  ValueBytes answers true.
-/
namespace Go.Proofs.YtmjchokacmbkoaaDoor
open Go.RowKit

theorem ownB_rest {n0 : Nat} {w : World} {u : Value} {l : List UInt8} (h : OwnB n0 w u l) : RestAt w.heap.size w u l := by
  rcases h.2 with ⟨rfl, h0⟩ | ⟨g', cap, cur, rfl, _⟩
  · obtain rfl := List.length_eq_zero_iff.1 h0
    exact ⟨none, 0, rfl, by simp, by unfold maxLen; omega, Or.inl rfl⟩
  · exact own_rest h

theorem ownB_slice {n0 : Nat} {w : World} {u : Value} {l : List UInt8} (h : OwnB n0 w u l) : ∃ p c, u = .slice p l.length c := by
  rcases h.2 with ⟨rfl, h0⟩ | ⟨g', cap, cur, rfl, _⟩
  · exact ⟨none, 0, by rw [h0]⟩
  · exact ⟨_, _, rfl⟩

set_option maxHeartbeats 2000000 in
set_option maxRecDepth 100000 in
theorem bytes_any (v : Value) (d : List Fx) (w : World) (hp : PlainAt w) (hv : IsXs w v d) (hf : FitX d) :
    Calls Tryd.prog 4 #[v] w fun e w' => e = .returned (.bool true) ∧ Below w.heap.size w w' := by
  have HP := hid hp
  have HV := hid hv
  have HF := hid hf
  clear hp hv hf
  cases hm : mayB (d.map Fx.fld) with
  | false =>
    have HM := hid hm
    have hz : sizeN (d.map Fx.fld) = 0 := by unfold sizeN; rw [hm]; rfl
    have HZ := hid hz
    clear hm hz
    go_enter Tryd.func4, Tryd.ntmps4
    go_wp2_with (first
      | (go_at_call 9; refine (fixed_any _ HP.out).mono ?_; rintro e w1 ⟨rfl, q1⟩)
      | (go_at_call 15; refine (encode_no v d w1 (HV.out.kept q1) HF.out HM.out).mono ?_; rintro e w2 ⟨rfl, q2⟩; have b2 : Below w.heap.size w w2 := bel_then q1 q1.size q2.below)
      | (go_at_call 16; refine (rencode_no v d w2 (HV.out.kept b2) HF.out HM.out).mono ?_; rintro e w3 ⟨rfl, q3⟩; have b3 : Below w.heap.size w w3 := bel_then b2 b2.size q3.below; have kc : ∀ W : World, (convert 29 9 (.slice none 0 0)).run Tryd.prog W = .ok (.string ⟨#[]⟩) W := fun W => conv_any (R := 0) ⟨none, 0, rfl, Nat.le_refl _, by unfold maxLen; omega, Or.inl rfl⟩)
      | (go_at_call 17; refine (size_any v d w3 (HV.out.kept b3) HF.out).mono ?_; rintro e w4 ⟨rfl, q4⟩; rw [HZ.out]))
    go_ret
    exact ⟨rfl, bel_then b3 b3.size q4⟩
  | true =>
    have HM := hid hm
    have hz : sizeN (d.map Fx.fld) = (encL (d.map Fx.fld)).length := by unfold sizeN; rw [hm]; rfl
    have HZ := hid hz
    clear hm hz
    obtain ⟨l, hl⟩ : ∃ l, encL (d.map Fx.fld) = l := ⟨_, rfl⟩
    have HL := hid hl
    clear hl
    go_enter Tryd.func4, Tryd.ntmps4
    go_wp2_with (first
      | (go_at_call 9; refine (fixed_any _ HP.out).mono ?_; rintro e w1 ⟨rfl, q1⟩)
      | (go_at_call 15; refine (encode_yes v d w1 (HV.out.kept q1) HF.out HM.out).mono ?_; rintro e w2 ⟨⟨u2, rfl, o2⟩, q2⟩; rw [HL.out] at o2; have b2 : Below w.heap.size w w2 := bel_then q1 q1.size q2)
      | (go_at_call 16; refine (rencode_yes v d w2 (HV.out.kept b2) HF.out HM.out).mono ?_; rintro e w3 ⟨⟨u3, rfl, o3⟩, q3⟩; rw [HL.out] at o3; have b3 : Below w.heap.size w w3 := bel_then b2 b2.size q3; have kc := conv_any (ownB_rest (o2.on q3)); have kd := conv_any (ownB_rest o3); obtain ⟨p3, c3, rfl⟩ := ownB_slice o3)
      | (go_at_call 17; refine (size_any v d w3 (HV.out.kept b3) HF.out).mono ?_; rintro e w4 ⟨rfl, q4⟩; rw [HZ.out, HL.out]))
    go_ret
    exact ⟨rfl, bel_then b3 b3.size q4⟩

end Go.Proofs.YtmjchokacmbkoaaDoor

/-
  The contract of the reference's Write.
-/
namespace Go.Proofs.YtmjchokacmbkoaaDoor
open Go.RowKit

theorem new_bytes3 (w : World) (a b c : Int) : ∀ j u, ([.int .u8 a, .int .u8 b, .int .u8 c] : List Value)[j]? = some u → (w.alloc (.cells #[.int .u8 a, .int .u8 b, .int .u8 c] 5)).cell? ((⟨w.heap.size, 0, none⟩ : Addr).add j) = some u := by
  intro j u hj
  match j, hj with
  | 0, hj => simp at hj; subst hj; simp [Addr.add]
  | 1, hj => simp at hj; subst hj; rw [addr_add]; simp
  | 2, hj => simp at hj; subst hj; rw [addr_add]; simp

theorem one_bytes3 (a b c : Int) : ∀ u ∈ ([.int .u8 a, .int .u8 b, .int .u8 c] : List Value), u.oneCell' = true := by
  intro u hu; simp at hu; rcases hu with rfl | rfl | rfl <;> rfl

theorem ownB_puts {n0 : Nat} {w : World} {v : Value} {bs cs : List UInt8} {n : Nat} {xs : List Value} (h : w.ownsRow n0 5 1 v n (Lib.byteCells bs ++ xs)) (hn : n = bs.length + cs.length) (hx : Lib.byteCells cs = xs) : OwnB n0 w v (bs ++ cs) := by
  subst hn hx
  unfold OwnB
  rw [List.length_append]
  have : Lib.byteCells (bs ++ cs) = Lib.byteCells bs ++ Lib.byteCells cs := by simp [Lib.byteCells]
  rw [this]
  exact h

theorem rdigitI (n : Int) (w : World) (h : 0 ≤ n ∧ n < 16) : Calls Tryd.prog 54 #[.int .u8 n] w fun e w' => e = .returned (.int .u8 ((hexd n.toNat).toNat : Nat)) ∧ w' = w := by
  have := rdigit_any n.toNat (by omega) w
  rw [show ((n.toNat : Nat) : Int) = n by omega] at this
  exact this

theorem wrap_byte (n : Int) (h : 0 ≤ n ∧ n < 256) : IntKind.u8.wrap n = n := by
  simp [IntKind.wrap, IntKind.signed, IntKind.bits]; omega

set_option maxHeartbeats 4000000 in
set_option maxRecDepth 100000 in
theorem rwrite_any (s : ByteArray) (w : World) (hs : s.size * 3 ≤ 140737488355328) :
    Calls Tryd.prog 28 #[.string s] w fun e w' => e = .returned (.string ⟨(writeL s.data.toList).toArray⟩) ∧ Below w.heap.size w w' := by
  obtain ⟨i0, hi0, hz0, hz1, hz2⟩ := info_parts Tryd.infoByte
  have HI := hid hi0
  clear hi0
  have mixed := Tryd.mixed
  go_enter Tryd.func28, Tryd.ntmps28
  go_wp2_with fail
  go_loopg [3, 4] s.size (fun g vb vi wr => ∃ i : Nat, vi = .int .i64 i ∧ i ≤ s.size ∧ s.size - i ≤ g ∧ Below w.heap.size w wr ∧ OwnB w.heap.size wr vb (writeL (s.data.toList.take i)))
  case atStart => exact ⟨0, rfl, by omega, by omega, Below.refl _ _, World.ownsRow_nil _ _ _ _⟩
  case round =>
    obtain ⟨i, rfl, hi, hgk, hb, hob⟩ := hrel
    have hszr := hb.size
    by_cases hlt : i < s.size
    · have hltz : (i : Int) < (s.size : Int) := by omega
      have hiz : (0 : Int) ≤ i := by omega
      have hst := write_step s i hlt
      have hal := writeL_len (s.data.toList.take i)
      rw [List.length_take] at hal
      obtain ⟨acc, hacc⟩ : ∃ acc, writeL (s.data.toList.take i) = acc := ⟨_, rfl⟩
      rw [hacc] at hob hst hal
      have hal2 : acc.length ≤ 3 * i := Nat.le_trans hal (Nat.mul_le_mul_left _ (Nat.min_le_left _ _))
      obtain ⟨c, hc⟩ : ∃ c, s[i] = c := ⟨_, rfl⟩
      have hcc := hc
      rw [hc] at hst
      have HST := hid hst
      have HOB := hid hob
      have HB := hid hb
      have hc256 := c.toNat_lt
      clear hst hob hb hal hacc
      cases hp : plainB (c.toNat : Int) with
      | true =>
        have HW : Hid (writeC c = [c]) := by show _ = _; unfold writeC; rw [if_pos hp]
        have HPL : Hid (∀ W, Calls Tryd.prog 53 #[.int .u8 (c.toNat : Nat)] W fun e w' => e = .returned (.bool true) ∧ w' = W) := fun W => by have := rplain_any (c.toNat : Int) W; rw [hp] at this; exact this
        clear hp
        go_wp2_with (first | (go_at_call 53; refine (HPL.out _).mono ?_; rintro e w1 ⟨rfl, rfl⟩) | (at_builtin; refine wpList_append_own _ rfl _ _ 29 rfl w.heap.size 5 i0 (.int .u8 0) 1 1 Tryd.underlying29 HI.out hz0 hz1 hz2 rfl (by decide) _ _ _ rfl (World.ownsRow.alloc HOB.out _) ⟨w1.heap.size, 0, none⟩ 1 1 [.int .u8 (c.toNat : Int)] rfl rfl (new_byte _ _) (one_byte _) (by unfold maxLen; omega) (by omega) (by simp; omega) ?_))
        intro v3 w3 hown3 hg3 _
        have hob3 : OwnB w.heap.size w3 v3 (acc ++ [c]) := ownB_put hown3 (by omega) rfl
        have hb3 : Below w.heap.size w w3 := (HB.out.alloc (by omega) _).grown hg3 (by simp; omega) (fun k hk => (World.ownsRow.lt HOB.out k hk).1)
        have HOB3 := hid hob3
        have HB3 := hid hb3
        clear hown3 hg3 hob3 hb3
        go_wp2_with fail
        go_roundg (s.size - (i + 1))
        case measure => omega
        refine ⟨i + 1, by go_num, by omega, by omega, HB3.out, ?_⟩
        rw [HST.out, HW.out]
        exact HOB3.out
      | false =>
        have HW : Hid (writeC c = [37, hexd (c.toNat / 16), hexd (c.toNat % 16)]) := by show _ = _; unfold writeC; rw [hp]; rfl
        have HPL : Hid (∀ W, Calls Tryd.prog 53 #[.int .u8 (c.toNat : Nat)] W fun e w' => e = .returned (.bool false) ∧ w' = W) := fun W => by have := rplain_any (c.toNat : Int) W; rw [hp] at this; exact this
        clear hp
        go_wp2_with (first | (go_at_call 53; refine (HPL.out _).mono ?_; rintro e w1 ⟨rfl, rfl⟩))
        have HQ : Hid ((IntKind.u8.wrap ((c.toNat : Int) / 16)).toNat = c.toNat / 16 ∧ ((c.toNat : Int).tmod 16).toNat = c.toNat % 16) := ⟨by rw [wrap_byte _ (by omega)]; omega, by rw [Int.tmod_eq_emod_of_nonneg (by omega)]; omega⟩
        go_region_law (first
          | (refine step_append_lies _ (by rfl) (.tmp 21) (.tmp 32) 29 (by rfl) w.heap.size 5 i0 (.int .u8 0) 1 1 Tryd.underlying29 HI.out hz0 hz1 hz2 rfl (by decide) u3 acc.length (Lib.byteCells acc) (by rfl) (World.ownsRow.alloc (w := w1.drew) HOB.out _) _ 3 3 [.int .u8 37, .int .u8 ((hexd (IntKind.u8.wrap ((c.toNat : Int) / 16)).toNat).toNat : Nat), .int .u8 ((hexd ((c.toNat : Int).tmod 16).toNat).toNat : Nat)] (by rfl) rfl (new_bytes3 _ _ _ _) (one_bytes3 _ _ _) (by decide) (by unfold maxLen; omega) (by omega) (by simp; omega) _ rfl ?_; intro g4 cap4 w4 hown4 hg4 _ _)
          | (go_simp; go_at_call 54; refine (rdigitI _ _ (by first | (rw [wrap_byte _ (by omega)]; omega) | (rw [Int.tmod_eq_emod_of_nonneg (by omega)]; omega))).mono ?_; rintro o w2 ⟨rfl, rfl⟩))
        all_goals
          have hob4 : OwnB w.heap.size w4 (.slice (some ⟨g4, 0, none⟩) (acc.length + 3) cap4) (acc ++ [37, hexd (c.toNat / 16), hexd (c.toNat % 16)]) := ownB_puts hown4 rfl (by rw [HQ.out.1, HQ.out.2]; rfl)
          have hb4 : Below w.heap.size w w4 := ((bel_drewN HB.out 1).alloc hszr _).grown hg4 (by have h1 : w.heap.size ≤ (w1.drewN 1).heap.size := hszr; simp; omega) (fun k hk => (World.ownsRow.lt HOB.out k hk).1)
          have HOB4 := hid hob4
          have HB4 := hid hb4
          clear hown4 hg4 hob4 hb4
          go_wp2_with fail
          go_roundg (s.size - (i + 1))
          case measure => omega
          refine ⟨i + 1, by go_num, by omega, by omega, HB4.out, ?_⟩
          rw [HST.out, HW.out]
          exact HOB4.out
    · have hltz : ¬ (i : Int) < (s.size : Int) := by omega
      have htk2 : s.data.toList.take i = s.data.toList := List.take_of_length_le (by simp; omega)
      rw [htk2] at hob
      have kc := conv_any (ownB_rest hob)
      have HOJ := hid hob
      clear hob htk2
      go_wp2_with fail
      go_ret
      exact ⟨rfl, hb⟩

end Go.Proofs.YtmjchokacmbkoaaDoor

/-
  The contract of the reference's Read.
-/
namespace Go.Proofs.YtmjchokacmbkoaaDoor
open Go.RowKit

theorem firstP_plain {c : UInt8} {r : List UInt8} (h : plainB (c.toNat : Int) = true) : firstP (c :: r) = some (c, 1) := by
  simp [firstP, h]
theorem firstP_sign {c : UInt8} {r : List UInt8} (h : plainB (c.toNat : Int) = false) (h2 : c ≠ 37) : firstP (c :: r) = none := by
  simp [firstP, h, h2]
theorem pct_plain : plainB 37 = false := by decide
theorem firstP_short {r : List UInt8} (h : r.length < 2) : firstP (37 :: r) = none := by
  match r, h with
  | [], _ => simp [firstP, pct_plain]
  | [_], _ => simp [firstP, pct_plain]
theorem firstP_hex {a b : UInt8} {r : List UInt8} : firstP (37 :: a :: b :: r) = if hexN a = 16 ∨ hexN b = 16 then none else if plainB ((UInt8.ofNat (16 * hexN a + hexN b)).toNat : Int) then none else some (UInt8.ofNat (16 * hexN a + hexN b), 3) := by
  have e : firstP (37 :: a :: b :: r) = if hexv a < 0 ∨ hexv b < 0 then none else
      if plainB ((UInt8.ofNat (16 * (hexv a).toNat + (hexv b).toNat)).toNat : Int) then none else some (UInt8.ofNat (16 * (hexv a).toNat + (hexv b).toNat), 3) := by
    simp [firstP, pct_plain]
  rw [e, hexN_eq a, hexN_eq b]
  by_cases ha : hexN a = 16
  · rw [if_pos (Or.inl (by rw [if_pos ha]; decide)), if_pos (Or.inl ha)]
  · by_cases hb : hexN b = 16
    · rw [if_pos (Or.inr (by rw [if_pos hb]; decide)), if_pos (Or.inr hb)]
    · rw [if_neg (show ¬ (hexN a = 16 ∨ hexN b = 16) by omega), if_neg (show ¬ ((if hexN a = 16 then (-1 : Int) else (hexN a : Int)) < 0 ∨ (if hexN b = 16 then (-1 : Int) else (hexN b : Int)) < 0) by rw [if_neg ha, if_neg hb]; omega), if_neg ha, if_neg hb, Int.toNat_natCast, Int.toNat_natCast]

theorem drop_at (s : ByteArray) (i : Nat) (h : i < s.size) : s.data.toList.drop i = s[i] :: s.data.toList.drop (i + 1) := by
  rw [List.drop_eq_getElem_cons (by simpa using h)]
  rfl

def RrSt (w : World) (s : ByteArray) (i : Nat) (vb : Value) (wr : World) : Prop :=
  ∃ acc, OwnB w.heap.size wr vb acc ∧ acc.length ≤ i ∧ readL s.data.toList = (readL (s.data.toList.drop i)).map (acc ++ ·) ∧ Below w.heap.size w wr

theorem rr_next {s : ByteArray} {i n : Nat} {c : UInt8} {acc : List UInt8} (h : readL s.data.toList = (readL (s.data.toList.drop i)).map (acc ++ ·)) (hf : firstP (s.data.toList.drop i) = some (c, n)) :
    readL s.data.toList = (readL (s.data.toList.drop (i + n))).map ((acc ++ [c]) ++ ·) := by
  rw [h, readL_some hf, List.drop_drop, Option.map_map]
  congr 1
  funext x
  simp

theorem rr_no {s : ByteArray} {i : Nat} {acc : List UInt8} (hi : i < s.size) (h : readL s.data.toList = (readL (s.data.toList.drop i)).map (acc ++ ·)) (hf : firstP (s.data.toList.drop i) = none) : readL s.data.toList = none := by
  rw [h, readL_none (by rw [drop_at s i hi]; simp) hf]
  rfl

set_option maxHeartbeats 4000000 in
set_option maxRecDepth 100000 in
theorem rread_any (s : ByteArray) (w : World) (hs : s.size ≤ 140737488355327) :
    Calls Tryd.prog 29 #[.string s] w fun e w' => e = .returned (readV (readL s.data.toList)) ∧ Below w.heap.size w w' := by
  obtain ⟨i0, hi0, hz0, hz1, hz2⟩ := info_parts Tryd.infoByte
  have HI := hid hi0
  clear hi0
  have mixed := Tryd.mixed
  obtain ⟨res, hres⟩ : ∃ res, readL s.data.toList = res := ⟨_, rfl⟩
  rw [hres]
  have HRES := hid hres
  clear hres
  go_enter Tryd.func29, Tryd.ntmps29
  go_wp2_with fail
  go_loopg [4, 5] s.size (fun g vb vi wr => ∃ i : Nat, vi = .int .i64 i ∧ i ≤ s.size ∧ s.size - i ≤ g ∧ RrSt w s i vb wr)
  case atStart => exact ⟨0, rfl, by omega, by omega, [], World.ownsRow_nil _ _ _ _, by simp, by simp, Below.refl _ _⟩
  case round =>
    obtain ⟨i, rfl, hi, hgk, acc, hob, hal, hrd, hb⟩ := hrel
    have hszr := hb.size
    have HOB := hid hob
    have HB := hid hb
    have HRD := hid hrd
    by_cases hlt : i < s.size
    · have hltz : (i : Int) < (s.size : Int) := by omega
      have hiz : (0 : Int) ≤ i := by omega
      have hdr := drop_at s i hlt
      obtain ⟨c, hc⟩ : ∃ c, s[i] = c := ⟨_, rfl⟩
      rw [hc] at hdr
      have HDR := hid hdr
      have hc256 := c.toNat_lt
      clear hob hb hrd hdr
      cases hp : plainB (c.toNat : Int) with
      | true =>
        have HN : Hid (readL s.data.toList = (readL (s.data.toList.drop (i + 1))).map ((acc ++ [c]) ++ ·)) := rr_next HRD.out (by rw [HDR.out]; exact firstP_plain hp)
        have HPL : Hid (∀ W, Calls Tryd.prog 53 #[.int .u8 (c.toNat : Nat)] W fun e w' => e = .returned (.bool true) ∧ w' = W) := fun W => by have := rplain_any (c.toNat : Int) W; rw [hp] at this; exact this
        clear hp
        go_wp2_with (first | (go_at_call 53; refine (HPL.out _).mono ?_; rintro e w1 ⟨rfl, rfl⟩) | (at_builtin; refine wpList_append_own _ rfl _ _ 29 rfl w.heap.size 5 i0 (.int .u8 0) 1 1 Tryd.underlying29 HI.out hz0 hz1 hz2 rfl (by decide) _ _ _ rfl (World.ownsRow.alloc HOB.out _) ⟨w1.heap.size, 0, none⟩ 1 1 [.int .u8 (c.toNat : Int)] rfl rfl (new_byte _ _) (one_byte _) (by unfold maxLen; omega) (by omega) (by simp; omega) ?_))
        intro v3 w3 hown3 hg3 _
        have hob3 : OwnB w.heap.size w3 v3 (acc ++ [c]) := ownB_put hown3 rfl rfl
        have hb3 : Below w.heap.size w w3 := (HB.out.alloc (by omega) _).grown hg3 (by simp; omega) (fun k hk => (World.ownsRow.lt HOB.out k hk).1)
        have HOB3 := hid hob3
        have HB3 := hid hb3
        clear hown3 hg3 hob3 hb3
        go_wp2_with fail
        go_roundg (s.size - (i + 1))
        case measure => omega
        exact ⟨i + 1, by go_num, by omega, by omega, acc ++ [c], HOB3.out, by simp; omega, HN.out, HB3.out⟩
      | false =>
        have HPL : Hid (∀ W, Calls Tryd.prog 53 #[.int .u8 (c.toNat : Nat)] W fun e w' => e = .returned (.bool false) ∧ w' = W) := fun W => by have := rplain_any (c.toNat : Int) W; rw [hp] at this; exact this
        by_cases h37 : c = 37
        · subst h37
          by_cases hsh : s.size - i < 3
          · have hshz : decide ((s.size : Int) - (i : Int) < 3) = true := decide_eq_true (by omega)
            have HN : Hid (res = none) := HRES.out.symm.trans (rr_no hlt HRD.out (by rw [HDR.out]; exact firstP_short (by simp; omega)))
            go_wp2_with (first | (go_at_call 53; refine (HPL.out _).mono ?_; rintro e w1 ⟨rfl, rfl⟩))
            refine wp_region_quiet_lit mixed (by kernel_rfl) ?_
            repeat (go_big_quiet_step (first | (go_at_call 55; refine Calls.quiet_of_same (rhex_any _ _)) | (go_at_call 53; refine Calls.quiet_of_same (rplain_any _ _))))
            refine wpQuiet_nil ?_
            intro _ hw'
            obtain ⟨nq, hw''⟩ := hw'
            subst hw''
            go_wp2_with fail
            go_ret2
            rw [HN.out]
            exact ⟨rfl, bel_drewN HB.out _⟩
          · have hshz : decide ((s.size : Int) - (i : Int) < 3) = false := decide_eq_false (by omega)
            have hd1 := drop_at s (i + 1) (by omega)
            have hd2 := drop_at s (i + 1 + 1) (by omega)
            obtain ⟨a, ha⟩ : ∃ a, s[i + 1]'(by omega) = a := ⟨_, rfl⟩
            obtain ⟨b, hb⟩ : ∃ b, s[i + 1 + 1]'(by omega) = b := ⟨_, rfl⟩
            rw [ha] at hd1
            rw [hb] at hd2
            have hb2 : s[i + 2]'(by omega) = b := hb
            have i1 : (0 : Int) ≤ (i : Int) + 1 := by omega
            have i2 : (i : Int) + 1 < (s.size : Int) := by omega
            have i3 : (0 : Int) ≤ (i : Int) + 2 := by omega
            have i4 : (i : Int) + 2 < (s.size : Int) := by omega
            have hal16 := hexN_le a
            have hbl16 := hexN_le b
            have hdd : s.data.toList.drop i = 37 :: a :: b :: s.data.toList.drop (i + 3) := by rw [HDR.out, hd1, hd2]
            have HDD := hid hdd
            clear hd1 hd2 hdd
            by_cases hxa : hexN a = 16
            · have da : decide ((15 : Int) < (hexN a : Int)) = true := decide_eq_true (by omega)
              have HN : Hid (res = none) := HRES.out.symm.trans (rr_no hlt HRD.out (by rw [HDD.out, firstP_hex, if_pos (Or.inl hxa)]))
              clear hxa
              go_wp2_with (first | (go_at_call 53; refine (HPL.out _).mono ?_; rintro e w1 ⟨rfl, rfl⟩))
              refine wp_region_quiet_lit mixed (by kernel_rfl) ?_
              repeat (go_big_quiet_step (first | (go_at_call 55; refine Calls.quiet_of_same (rhex_any _ _)) | (go_at_call 53; refine Calls.quiet_of_same (rplain_any _ _))))
              refine wpQuiet_nil ?_
              intro _ hw'
              obtain ⟨nq, hw''⟩ := hw'
              subst hw''
              go_wp2_with fail
              go_ret2
              rw [HN.out]
              exact ⟨rfl, bel_drewN HB.out _⟩
            have da : decide ((15 : Int) < (hexN a : Int)) = false := decide_eq_false (by omega)
            by_cases hxb : hexN b = 16
            · have db : decide ((15 : Int) < (hexN b : Int)) = true := decide_eq_true (by omega)
              have HN : Hid (res = none) := HRES.out.symm.trans (rr_no hlt HRD.out (by rw [HDD.out, firstP_hex, if_pos (Or.inr hxb)]))
              clear hxb
              go_wp2_with (first | (go_at_call 53; refine (HPL.out _).mono ?_; rintro e w1 ⟨rfl, rfl⟩))
              refine wp_region_quiet_lit mixed (by kernel_rfl) ?_
              repeat (go_big_quiet_step (first | (go_at_call 55; refine Calls.quiet_of_same (rhex_any _ _)) | (go_at_call 53; refine Calls.quiet_of_same (rplain_any _ _))))
              refine wpQuiet_nil ?_
              intro _ hw'
              obtain ⟨nq, hw''⟩ := hw'
              subst hw''
              go_wp2_with fail
              go_ret2
              rw [HN.out]
              exact ⟨rfl, bel_drewN HB.out _⟩
            have db : decide ((15 : Int) < (hexN b : Int)) = false := decide_eq_false (by omega)
            have hsum : ((UInt8.ofNat (16 * hexN a + hexN b)).toNat : Int) = (hexN a : Int) * 16 + (hexN b : Int) := by
              rw [UInt8.toNat_ofNat']; omega
            have HSU := hid hsum
            have HFP : Hid (firstP (s.data.toList.drop i) = if plainB ((hexN a : Int) * 16 + (hexN b : Int)) = true then none else some (UInt8.ofNat (16 * hexN a + hexN b), 3)) := by
              show _ = _
              rw [HDD.out, firstP_hex, if_neg (by omega), hsum]
            clear hsum
            cases hq : plainB ((hexN a : Int) * 16 + (hexN b : Int)) with
            | true =>
              have HN : Hid (res = none) := HRES.out.symm.trans (rr_no hlt HRD.out (by rw [HFP.out, if_pos hq]))
              go_wp2_with (first | (go_at_call 53; refine (HPL.out _).mono ?_; rintro e w1 ⟨rfl, rfl⟩))
              refine wp_region_quiet_lit mixed (by kernel_rfl) ?_
              repeat (go_big_quiet_step (first | (go_at_call 55; refine Calls.quiet_of_same (rhex_any _ _)) | (go_at_call 53; refine Calls.quiet_of_same (rplain_any _ _))))
              refine wpQuiet_nil ?_
              intro _ hw'
              obtain ⟨nq, hw''⟩ := hw'
              subst hw''
              go_wp2_with fail
              go_ret2
              rw [HN.out]
              exact ⟨rfl, bel_drewN HB.out _⟩
            | false =>
              have HN : Hid (readL s.data.toList = (readL (s.data.toList.drop (i + 3))).map ((acc ++ [UInt8.ofNat (16 * hexN a + hexN b)]) ++ ·)) := rr_next HRD.out (by rw [HFP.out, hq]; rfl)
              go_wp2_with (first | (go_at_call 53; refine (HPL.out _).mono ?_; rintro e w1 ⟨rfl, rfl⟩))
              refine wp_region_quiet_lit mixed (by kernel_rfl) ?_
              repeat (go_big_quiet_step (first | (go_at_call 55; refine Calls.quiet_of_same (rhex_any _ _)) | (go_at_call 53; refine Calls.quiet_of_same (rplain_any _ _))))
              refine wpQuiet_nil ?_
              intro _ hw'
              obtain ⟨nq, hw''⟩ := hw'
              subst hw''
              go_wp2_with fail
              obtain ⟨W2, hW2⟩ : ∃ W2, w1.drewN nq = W2 := ⟨_, rfl⟩
              have hb2W : Below w.heap.size w W2 := by rw [← hW2]; exact bel_drewN HB.out _
              have hob2 : OwnB w.heap.size W2 u4 acc := by rw [← hW2]; exact HOB.out
              have hszW := hb2W.size
              have HBW := hid hb2W
              have HOW := hid hob2
              rw [hW2]
              clear hW2 hb2W hob2
              have x1 : IntKind.i64.wrap ((i : Int) + 1) = (i : Int) + 1 := by simp [IntKind.wrap, IntKind.signed, IntKind.bits]; omega
              have x2 : IntKind.i64.wrap ((i : Int) + 2) = (i : Int) + 2 := by simp [IntKind.wrap, IntKind.signed, IntKind.bits]; omega
              have x3 : ((i : Int) + 1).toNat = i + 1 := by omega
              have x4 : ((i : Int) + 2).toNat = i + 2 := by omega
              have x5 : IntKind.u8.wrap ((hexN a : Int) * 16) = (hexN a : Int) * 16 := wrap_byte _ (by omega)
              have x6 : IntKind.u8.wrap ((hexN a : Int) * 16 + (hexN b : Int)) = (hexN a : Int) * 16 + (hexN b : Int) := wrap_byte _ (by omega)
              go_region_law (first
                | (refine step_append_lies _ (by rfl) (.tmp 12) (.tmp 25) 29 (by rfl) w.heap.size 5 i0 (.int .u8 0) 1 1 Tryd.underlying29 HI.out hz0 hz1 hz2 rfl (by decide) u4 acc.length (Lib.byteCells acc) (by rfl) (World.ownsRow.alloc (w := W2.drew) HOW.out _) _ 1 1 [.int .u8 ((hexN a : Int) * 16 + (hexN b : Int))] (by rfl) rfl (new_byte _ _) (one_byte _) (by decide) (by unfold maxLen; omega) (by omega) (by simp; omega) _ rfl ?_; intro g4 cap4 w4 hown4 hg4 _ _)
                | (go_simp; go_at_call 55; refine (rhex_any _ _).mono ?_; rintro o w2 ⟨rfl, rfl⟩))
              all_goals
                have hob4 : OwnB w.heap.size w4 (.slice (some ⟨g4, 0, none⟩) (acc.length + 1) cap4) (acc ++ [UInt8.ofNat (16 * hexN a + hexN b)]) := ownB_put hown4 rfl HSU.out
                have hb4 : Below w.heap.size w w4 := ((bel_drewN HBW.out 1).alloc hszW _).grown hg4 (by have h1 : w.heap.size ≤ (W2.drewN 1).heap.size := hszW; simp; omega) (fun k hk => (World.ownsRow.lt HOW.out k hk).1)
                have HOB4 := hid hob4
                have HB4 := hid hb4
                clear hown4 hg4 hob4 hb4
                go_wp2_with fail
                go_roundg (s.size - (i + 3))
                case measure => omega
                exact ⟨i + 3, by go_num, by omega, by omega, _, HOB4.out, by simp; omega, HN.out, HB4.out⟩
        · have hcne : ((c.toNat : Int) != 37) = true := by
            rw [bne_iff_ne]
            intro e
            apply h37
            have : c.toNat = 37 := by omega
            exact UInt8.toNat_inj.1 this
          have HN : Hid (res = none) := HRES.out.symm.trans (rr_no hlt HRD.out (by rw [HDR.out]; exact firstP_sign hp h37))
          go_wp2_with (first | (go_at_call 53; refine (HPL.out _).mono ?_; rintro e w1 ⟨rfl, rfl⟩))
          refine wp_region_quiet_lit mixed (by kernel_rfl) ?_
          repeat (go_big_quiet_step (first | (go_at_call 55; refine Calls.quiet_of_same (rhex_any _ _)) | (go_at_call 53; refine Calls.quiet_of_same (rplain_any _ _))))
          refine wpQuiet_nil ?_
          intro _ hw'
          obtain ⟨nq, hw''⟩ := hw'
          subst hw''
          go_wp2_with fail
          go_ret2
          rw [HN.out]
          exact ⟨rfl, bel_drewN HB.out _⟩
    · have hltz : ¬ (i : Int) < (s.size : Int) := by omega
      have hres2 : res = some acc := by
        rw [← HRES.out, hrd, List.drop_of_length_le (by simp; omega), readL_nil]
        simp
      have HR2 := hid hres2
      have kc := conv_any (ownB_rest hob)
      clear hob hrd hres2
      go_wp2_with fail
      go_ret2
      rw [HR2.out]
      exact ⟨rfl, hb⟩

end Go.Proofs.YtmjchokacmbkoaaDoor

/-
  ValueTexts answers true, where each text is short enough to be written.
-/
namespace Go.Proofs.YtmjchokacmbkoaaDoor
open Go.RowKit

theorem hexd_table : ((List.range 16).all fun k => decide (hexN (hexd k) = k)) = true := by decide
theorem hexN_hexd {k : Nat} (h : k < 16) : hexN (hexd k) = k := by
  have := List.all_eq_true.1 hexd_table k (List.mem_range.2 h)
  exact of_decide_eq_true this

theorem hexd_hexN {c : UInt8} (h : hexN c ≠ 16) : hexd (hexN c) = c := by
  rcases hexv_cases c with h1 | ⟨k, hk, _, rfl⟩
  · rw [hexN_eq, if_neg h] at h1
    omega
  · rw [hexN_hexd hk]

theorem read_write (l : List UInt8) : readL (writeL l) = some l := by
  induction l with
  | nil => exact readL_nil
  | cons c l ih =>
    rw [writeL_cons]
    cases hp : plainB (c.toNat : Int) with
    | true =>
      have e : writeC c = [c] := by unfold writeC; rw [if_pos hp]
      rw [e, List.cons_append, List.nil_append, readL_some (firstP_plain hp)]
      show (readL (writeL l)).map _ = _
      rw [ih]; rfl
    | false =>
      have e : writeC c = [37, hexd (c.toNat / 16), hexd (c.toNat % 16)] := by unfold writeC; rw [hp]; rfl
      have hc := c.toNat_lt
      have h1 : hexN (hexd (c.toNat / 16)) = c.toNat / 16 := hexN_hexd (by omega)
      have h2 : hexN (hexd (c.toNat % 16)) = c.toNat % 16 := hexN_hexd (by omega)
      have hs : UInt8.ofNat (16 * (c.toNat / 16) + c.toNat % 16) = c := by
        rw [show 16 * (c.toNat / 16) + c.toNat % 16 = c.toNat by omega, UInt8.ofNat_toNat]
      have hf : firstP (37 :: hexd (c.toNat / 16) :: hexd (c.toNat % 16) :: writeL l) = some (c, 3) := by
        rw [firstP_hex, h1, h2, if_neg (by omega), hs, if_neg (by rw [hp]; simp)]
      rw [e]
      show readL (37 :: hexd (c.toNat / 16) :: hexd (c.toNat % 16) :: writeL l) = _
      rw [readL_some hf]
      show (readL (writeL l)).map _ = _
      rw [ih]; rfl

theorem firstP_write {l : List UInt8} {c : UInt8} {n : Nat} (h : firstP l = some (c, n)) : writeC c = l.take n ∧ 0 < n := by
  cases l with
  | nil => cases h
  | cons x r =>
    cases hp : plainB (x.toNat : Int) with
    | true =>
      rw [firstP_plain hp] at h
      cases h
      refine ⟨?_, by omega⟩
      unfold writeC
      rw [if_pos hp]
      rfl
    | false =>
      by_cases hx : x = 37
      · subst hx
        match r, h with
        | [], h => rw [firstP_short (by simp)] at h; cases h
        | [_], h => rw [firstP_short (by simp)] at h; cases h
        | a :: b :: r, h =>
          rw [firstP_hex] at h
          by_cases h1 : hexN a = 16 ∨ hexN b = 16
          · rw [if_pos h1] at h; cases h
          · rw [if_neg h1] at h
            have ha := hexN_le a
            have hb := hexN_le b
            cases hq : plainB ((UInt8.ofNat (16 * hexN a + hexN b)).toNat : Int) with
            | true => rw [if_pos hq] at h; cases h
            | false =>
              rw [if_neg (by rw [hq]; simp)] at h
              cases h
              refine ⟨?_, by omega⟩
              unfold writeC
              rw [hq]
              have e : (UInt8.ofNat (16 * hexN a + hexN b)).toNat = 16 * hexN a + hexN b := by rw [UInt8.toNat_ofNat']; omega
              rw [e, show (16 * hexN a + hexN b) / 16 = hexN a by omega, show (16 * hexN a + hexN b) % 16 = hexN b by omega, hexd_hexN (by omega), hexd_hexN (by omega)]
              rfl
      · rw [firstP_sign hp hx] at h; cases h

theorem write_read : ∀ (k : Nat) (l m : List UInt8), l.length ≤ k → readL l = some m → writeL m = l
  | 0, l, m, hl, h => by
    obtain rfl := List.length_eq_zero_iff.1 (by omega : l.length = 0)
    rw [readL_nil] at h; cases h; rfl
  | k + 1, l, m, hl, h => by
    by_cases h0 : l = []
    · subst h0; rw [readL_nil] at h; cases h; rfl
    · cases hf : firstP l with
      | none => rw [readL_none h0 hf] at h; cases h
      | some x =>
        obtain ⟨c, n⟩ := x
        rw [readL_some hf] at h
        cases hr : readL (l.drop n) with
        | none => rw [hr] at h; cases h
        | some m' =>
          rw [hr] at h
          cases h
          obtain ⟨h1, h2⟩ := firstP_write hf
          have hlen : l.length ≠ 0 := fun e => h0 (List.length_eq_zero_iff.1 e)
          have := write_read k (l.drop n) m' (by rw [List.length_drop]; omega) hr
          show writeL (c :: m') = l
          rw [writeL_cons, this, h1, List.take_append_drop]

theorem read_back (t : ByteArray) (w : World) (hp : PlainAt w) (hs : t.size ≤ 46912496118442) :
    Calls Tryd.prog 27 #[.string ⟨(writeL t.data.toList).toArray⟩] w fun e w' => e = .returned (.tuple #[.string t, .int .i64 0]) ∧ Below w.heap.size w w' := by
  have hl := writeL_len t.data.toList
  have := read_any ⟨(writeL t.data.toList).toArray⟩ w hp (by
    show (writeL t.data.toList).toArray.size ≤ _
    simp at hl ⊢
    omega)
  rw [show (ByteArray.mk (writeL t.data.toList).toArray).data.toList = writeL t.data.toList by simp, read_write] at this
  have e : (⟨t.data.toList.toArray⟩ : ByteArray) = t := by obtain ⟨⟨l⟩⟩ := t; rfl
  simp only [readV, e] at this
  exact this

theorem write_back (t : ByteArray) (m : List UInt8) (w : World) (hp : PlainAt w) (hs : t.size ≤ 46912496118442) (h : readL t.data.toList = some m) :
    Calls Tryd.prog 26 #[.string ⟨m.toArray⟩] w fun e w' => e = .returned (.string t) ∧ Below w.heap.size w w' := by
  have hl := readL_len _ _ _ (Nat.le_refl _) h
  have := write_any ⟨m.toArray⟩ w hp (by
    show m.toArray.size ≤ _
    simp at hl ⊢
    omega)
  rw [show (ByteArray.mk m.toArray).data.toList = m by simp, write_read _ _ _ (Nat.le_refl _) h] at this
  have e : (⟨t.data.toList.toArray⟩ : ByteArray) = t := by obtain ⟨⟨l⟩⟩ := t; rfl
  rw [e] at this
  exact this

set_option maxHeartbeats 1500000 in
set_option maxRecDepth 100000 in
theorem valtexts_any (p : Option Addr) (cap : Nat) (ts : List ByteArray) (w : World) (hp : PlainAt w) (ht : TxtAt w p ts) (hl : ts.length ≤ maxLen) (hs : ∀ t ∈ ts, t.size ≤ 46912496118442) :
    Calls Tryd.prog 8 #[.slice p ts.length cap] w fun e w' => e = .returned (.bool true) ∧ Below w.heap.size w w' := by
  have HP := hid hp
  have HT := hid ht
  have HS := hid hs
  unfold maxLen at hl
  clear hp ht hs
  go_enter Tryd.func8, Tryd.ntmps8
  go_wp2_with (first
    | (go_at_call 9; refine (fixed_any _ HP.out).mono ?_; rintro e w1 ⟨rfl, q1⟩))
  go_loopg [16] ts.length (fun g vi wr => ∃ i : Nat, vi = .int .i64 i ∧ i ≤ ts.length ∧ ts.length - i ≤ g ∧ Below w.heap.size w wr)
  case atStart => exact ⟨0, rfl, by omega, by omega, q1⟩
  case round =>
    obtain ⟨i, rfl, hi, hgk, hb⟩ := hrel
    by_cases hlt : i < ts.length
    · have hltz : (i : Int) < (ts.length : Int) := by omega
      have hiz : (0 : Int) ≤ (i : Int) := by omega
      rcases HT.out with hn | ⟨b, off, rfl, hc⟩
      · rw [hn] at hlt; simp at hlt
      have c0 : wr.cell? ⟨b, off + i, none⟩ = some (.string ts[i]) := (hb.cell (p := ⟨b, off + i, none⟩) (cell_block (hc i hlt))).trans (hc i hlt)
      have hts := HS.out _ (List.getElem_mem hlt)
      obtain ⟨t, htt⟩ : ∃ t, ts[i] = t := ⟨_, rfl⟩
      rw [htt] at c0 hts
      have HB := hid hb
      have HTS : Hid (t.size * 3 ≤ 140737488355328 ∧ t.size ≤ 140737488355327) := ⟨by omega, by omega⟩
      clear hc htt hb q1
      cases hr : readL t.data.toList with
      | none =>
        have HR := hid hr
        clear hr
        go_wp2_with fail
        refine (write_any _ _ (HP.out.on HB.out) hts).mono ?_
        rintro e w2 ⟨rfl, q2⟩
        have b2 : Below w.heap.size w w2 := bel_then HB.out HB.out.size q2
        go_wp2_with fail
        refine (read_back t w2 (HP.out.on b2) hts).mono ?_
        rintro e w3 ⟨rfl, q3⟩
        have b3 : Below w.heap.size w w3 := bel_then b2 b2.size q3
        go_wp2_with fail
        refine (rwrite_any _ _ HTS.out.1).mono ?_
        rintro e w4 ⟨rfl, q4⟩
        have b4 : Below w.heap.size w w4 := bel_then b3 b3.size q4
        go_wp2_with fail
        refine (read_any t w4 (HP.out.on b4) HTS.out.2).mono ?_
        rintro e w5 ⟨rfl, q5⟩
        rw [HR.out]
        simp only [readV]
        have b5 : Below w.heap.size w w5 := bel_then b4 b4.size q5
        go_wp2_with fail
        refine (rread_any _ _ HTS.out.2).mono ?_
        rintro e w6 ⟨rfl, q6⟩
        rw [HR.out]
        simp only [readV]
        have b6 : Below w.heap.size w w6 := bel_then b5 b5.size q6
        go_wp2_with fail
        go_roundg (ts.length - (i + 1))
        case measure => omega
        exact ⟨i + 1, by go_num, by omega, by omega, b6⟩
      | some m =>
        have HR := hid hr
        clear hr
        go_wp2_with fail
        refine (write_any _ _ (HP.out.on HB.out) hts).mono ?_
        rintro e w2 ⟨rfl, q2⟩
        have b2 : Below w.heap.size w w2 := bel_then HB.out HB.out.size q2
        go_wp2_with fail
        refine (read_back t w2 (HP.out.on b2) hts).mono ?_
        rintro e w3 ⟨rfl, q3⟩
        have b3 : Below w.heap.size w w3 := bel_then b2 b2.size q3
        go_wp2_with fail
        refine (rwrite_any _ _ HTS.out.1).mono ?_
        rintro e w4 ⟨rfl, q4⟩
        have b4 : Below w.heap.size w w4 := bel_then b3 b3.size q4
        go_wp2_with fail
        refine (read_any t w4 (HP.out.on b4) HTS.out.2).mono ?_
        rintro e w5 ⟨rfl, q5⟩
        rw [HR.out]
        simp only [readV]
        have b5 : Below w.heap.size w w5 := bel_then b4 b4.size q5
        go_wp2_with fail
        refine (rread_any _ _ HTS.out.2).mono ?_
        rintro e w6 ⟨rfl, q6⟩
        rw [HR.out]
        simp only [readV]
        have b6 : Below w.heap.size w w6 := bel_then b5 b5.size q6
        go_wp2_with fail
        refine (write_back t m w6 (HP.out.on b6) hts HR.out).mono ?_
        rintro e w7 ⟨rfl, q7⟩
        have b7 : Below w.heap.size w w7 := bel_then b6 b6.size q7
        go_wp2_with fail
        go_roundg (ts.length - (i + 1))
        case measure => omega
        exact ⟨i + 1, by go_num, by omega, by omega, b7⟩
    · have hltz : ¬ (i : Int) < (ts.length : Int) := by omega
      go_wp2_with fail
      go_ret
      exact ⟨rfl, hb⟩

end Go.Proofs.YtmjchokacmbkoaaDoor

/-
  A value's line is read back as the value.
-/
namespace Go.Proofs.YtmjchokacmbkoaaDoor
open Go.RowKit Go.Lib

theorem ix_here {a b : List UInt8} {c : UInt8} (h : c ∉ a) : Lib.indexByte (a ++ c :: b) c = (a.length : Int) := by
  rcases ix_cases (a ++ c :: b) c with ⟨_, h2⟩ | ⟨i, h1, h2, h3, h4⟩
  · exact absurd (by simp) h2
  · have h5 := ix_split _ c i h2 h3
    have := (ix_uniq h5 h h4).1
    rw [h1, this, List.length_take]
    omega

theorem ix_none {a : List UInt8} {c : UInt8} (h : c ∉ a) : Lib.indexByte a c = -1 := by
  rcases ix_cases a c with ⟨h1, _⟩ | ⟨i, _, h2, h3, _⟩
  · exact h1
  · exact absurd (List.mem_of_getElem? h3) h

theorem split_join : ∀ ws : List (List UInt8), ws ≠ [] → (∀ w ∈ ws, (32 : UInt8) ∉ w) → splitL (Lib.join ws [32]) = ws
  | [], h, _ => absurd rfl h
  | [w], _, h => by
    rw [Lib.join_one]
    exact splitL_no (ix_none (h w (by simp)))
  | w :: v :: ws, _, h => by
    have ih := split_join (v :: ws) (by simp) (fun x hx => h x (by simp [hx]))
    rw [join_two, splitL_yes (ix_here (h w (by simp)))]
    rw [List.take_left' rfl]
    congr 1
    rw [show w ++ 32 :: Lib.join (v :: ws) [32] = (w ++ [32]) ++ Lib.join (v :: ws) [32] by simp, List.drop_left' (by simp)]
    exact ih

theorem noblank_mem {l : List UInt8} (h : blanks l = 0) : (32 : UInt8) ∉ l := by
  intro hm
  have := List.countP_eq_zero.1 h 32 hm
  simp at this

theorem field_noeq {l : List UInt8} (h : fieldB l = true) : (61 : UInt8) ∉ l := by
  intro hc
  unfold fieldB spell at h
  cases l with
  | nil => simp at hc
  | cons x r =>
    simp only [Bool.and_eq_true, List.all_eq_true] at h
    have key : lodB ((61 : UInt8).toNat : Int) = true ∨ smallB ((61 : UInt8).toNat : Int) = true := by
      rcases List.mem_cons.1 hc with e | hc
      · exact Or.inr (by rw [e]; exact h.1.2)
      · exact Or.inl (h.2 _ hc)
    rcases key with k | k
    · revert k; decide
    · revert k; decide

theorem word_back {n t : ByteArray} (h : fieldB n.data.toList = true) : wordO (wordOf n t).data.toList = some (n.data.toList, t.data.toList) := by
  rw [word_data, List.append_assoc, List.singleton_append]
  have e := ix_here (b := writeL t.data.toList) (field_noeq h)
  unfold wordO
  rw [e, if_neg (by omega), Int.toNat_natCast, List.take_left' rfl]
  rw [show n.data.toList ++ 61 :: writeL t.data.toList = (n.data.toList ++ [61]) ++ writeL t.data.toList by simp, List.drop_left' (by simp), read_write]
  rfl

/-- Each text a field by itself. -/
def singles (fs : List Fld) : List Fld := fs.flatMap fun f => f.2.map fun t => (f.1, [t])

theorem ba_back (b : ByteArray) : (⟨b.data.toList.toArray⟩ : ByteArray) = b := by obtain ⟨⟨l⟩⟩ := b; rfl

theorem words_back (fs : List Fld) (h : ∀ f ∈ fs, fieldB f.1.data.toList = true) : fieldsW ((wordsL fs).map (·.data.toList)) = some (singles fs) := by
  induction fs with
  | nil => rfl
  | cons f fs ih =>
    have hf := h f (by simp)
    have ih := ih fun g hg => h g (by simp [hg])
    have e1 : fieldsW ((wordsF f).map (·.data.toList)) = some (f.2.map fun t => (f.1, [t])) := by
      unfold wordsF
      generalize f.2 = ts
      induction ts with
      | nil => rfl
      | cons t ts iht =>
        simp only [List.map_cons, fieldsW]
        rw [word_back hf]
        simp only
        rw [iht, ba_back, ba_back]
        rfl
    unfold wordsL at ih ⊢
    rw [List.flatMap_cons, List.map_append, fieldsW_append, e1, ih]
    rfl

theorem single_filter (f : Fld) (c : ByteArray) : ((f.2.map fun t => ((f.1, [t]) : Fld)).filter fun x => decide (x.1 = c)).flatMap (·.2) = if f.1 = c then f.2 else [] := by
  obtain ⟨n, ts⟩ := f
  simp only
  by_cases e : n = c
  · rw [if_pos e, List.filter_eq_self.2 (fun x hx => by obtain ⟨t, _, rfl⟩ := List.mem_map.1 hx; simp [e])]
    induction ts with
    | nil => rfl
    | cons t ts ih => rw [List.map_cons, List.flatMap_cons, ih]; rfl
  · rw [if_neg e, List.filter_eq_nil_iff.2 (fun x hx => by obtain ⟨t, _, rfl⟩ := List.mem_map.1 hx; simp [e])]
    rfl

theorem txt_singles (fs : List Fld) (c : ByteArray) : txtOf (singles fs) c = txtOf fs c := by
  induction fs with
  | nil => rfl
  | cons f fs ih =>
    unfold txtOf singles at *
    rw [List.flatMap_cons, List.filter_append, List.flatMap_append, single_filter, ih]
    by_cases e : f.1 = c
    · rw [if_pos e, List.filter_cons_of_pos (by simp [e]), List.flatMap_cons]
    · rw [if_neg e, List.filter_cons_of_neg (by simp [e]), List.nil_append]

theorem may_rising {fs : List Fld} (h : mayB fs = true) : Rising fs := by
  have hs := (may_parts h).2
  have step : ∀ i, (hi : i + 1 < fs.length) → ltB (fs[i]).1 (fs[i + 1]).1 = true := fun i hi => by
    have := hs (i + 1) hi
    unfold stepOk at this
    rw [Bool.and_eq_true, Bool.or_eq_true] at this
    rcases this.2 with h | h
    · have := of_decide_eq_true h; omega
    · rw [ltN_eq, Nat.add_sub_cancel, List.getD_eq_getElem?_getD, List.getD_eq_getElem?_getD, List.getElem?_eq_getElem hi, List.getElem?_eq_getElem (show i < fs.length by omega)] at h
      exact h
  refine List.pairwise_iff_getElem.2 fun i j hi hj hij => ?_
  induction j with
  | zero => omega
  | succ j ih =>
    by_cases e : i = j
    · subst e; exact step i hj
    · exact ltB_trans (ih (by omega) (by omega)) (step j hj)

theorem rising_txt {fs : List Fld} (h : Rising fs) : ∀ f ∈ fs, f.2 = txtOf fs f.1 := by
  intro f hf
  obtain ⟨a, b, rfl⟩ := List.append_of_mem hf
  have hr := List.pairwise_append.1 h
  have hr2 := List.pairwise_cons.1 hr.2.1
  have ha : a.filter (fun x => decide (x.1 = f.1)) = [] := List.filter_eq_nil_iff.2 fun x hx e => ltB_ne (hr.2.2 x hx f (by simp)) (by simpa using e)
  have hb : b.filter (fun x => decide (x.1 = f.1)) = [] := List.filter_eq_nil_iff.2 fun x hx e => ltB_ne (hr2.1 x hx) (Eq.symm (of_decide_eq_true e))
  unfold txtOf
  rw [List.filter_append, ha, List.filter_cons_of_pos (by simp), hb]
  simp

theorem groups_self {fs : List Fld} (h : Rising fs) : Groups fs fs := ⟨h, fun _ => Iff.rfl, rising_txt h⟩

theorem groups_singles {fs : List Fld} (h : Rising fs) (hne : ∀ f ∈ fs, f.2 ≠ []) : Groups (singles fs) fs := by
  refine ⟨h, fun c => ⟨?_, ?_⟩, fun f hf => ?_⟩
  · rintro ⟨f, hf, rfl⟩
    cases ht : f.2 with
    | nil => exact absurd ht (hne f hf)
    | cons t ts => exact ⟨(f.1, [t]), List.mem_flatMap.2 ⟨f, hf, List.mem_map.2 ⟨t, by rw [ht]; simp, rfl⟩⟩, rfl⟩
  · rintro ⟨x, hx, rfl⟩
    obtain ⟨f, hf, hx⟩ := List.mem_flatMap.1 hx
    obtain ⟨t, _, rfl⟩ := List.mem_map.1 hx
    exact ⟨f, hf, rfl⟩
  · rw [txt_singles]; exact rising_txt h f hf

theorem fits_ne {f : Fld} (h : fitsB f = true) : f.2 ≠ [] := fun e => by
  have := (fits_parts h).2.1
  rw [e] at this; simp at this

theorem may_nobare {fs : List Fld} (h : mayB fs = true) : fs.any bareB = false := by
  rw [List.any_eq_false]
  intro f hf hb
  exact fits_ne (may_fits h f hf) (List.isEmpty_iff.1 hb)

/-- Words, or none of the empty text. -/
def fieldsP (l : List UInt8) : Option (List Fld) := if l = [] then some [] else fieldsW (splitL l)
def codeP (l : List UInt8) : Int := match fieldsP l with
  | none => 4
  | some fs => codeF fs
def ansP (l : List UInt8) : List Fld := match fieldsP l with
  | none => []
  | some fs => ansF fs

theorem norm_singles {fs : List Fld} (h : mayB fs = true) : codeF (singles fs) = 0 ∧ ansF (singles fs) = fs := by
  have hn : normF (singles fs) = fs := groups_unique (normF_groups _) (groups_singles (may_rising h) fun f hf => fits_ne (may_fits h f hf))
  have hm : (singles fs).any misB = false := by
    rw [List.any_eq_false]
    intro x hx
    obtain ⟨f, hf, hx⟩ := List.mem_flatMap.1 hx
    obtain ⟨t, _, rfl⟩ := List.mem_map.1 hx
    have := (fits_parts (may_fits h f hf)).2.2.2.2
    simp [misB, this]
  have hc : codeF (singles fs) = 0 := by unfold codeF; rw [hm, hn, may_nobare h, h]; rfl
  exact ⟨hc, by unfold ansF; rw [hc, hn]; rfl⟩

theorem line_back {fs : List Fld} (h : mayB fs = true) : codeP (lineOf fs).data.toList = 0 ∧ ansP (lineOf fs).data.toList = fs := by
  have e0 : (lineOf fs).data.toList = Lib.join ((wordsL fs).map (·.data.toList)) [32] := by
    show (Lib.join ((wordsL fs).map (·.data.toList)) [32]).toArray.toList = _
    rw [List.toList_toArray]
  have hp : fieldsP (lineOf fs).data.toList = some (singles fs) := by
    unfold fieldsP
    by_cases hl : (lineOf fs).data.toList = []
    · rw [if_pos hl]
      have h0 : (lineOf fs).size = 0 := by
        have := congrArg List.length hl
        simpa using this
      have h1 := (line_empty fs).1 h0
      have h2 : fs = [] := by
        cases fs with
        | nil => rfl
        | cons f fs =>
          have := (fits_parts (may_fits h f (by simp))).2.1
          simp only [totF, List.map_cons, List.sum_cons] at h1
          omega
      subst h2
      rfl
    · rw [if_neg hl, e0, split_join]
      · exact words_back fs fun f hf => (fits_parts (may_fits h f hf)).2.2.2.2
      · intro e
        rw [e0, e] at hl
        exact hl rfl
      · intro w hw
        obtain ⟨x, hx, rfl⟩ := List.mem_map.1 hw
        obtain ⟨f, hf, hx⟩ := List.mem_flatMap.1 hx
        obtain ⟨t, _, rfl⟩ := List.mem_map.1 hx
        exact noblank_mem (word_noblank (fits_parts (may_fits h f hf)).2.2.2.2)
  unfold codeP ansP
  rw [hp]
  exact norm_singles h

theorem codeF_nil : codeF [] = 0 := by decide
theorem ansF_nil : ansF [] = [] := by decide

def PPost (w : World) (l : List UInt8) (e : Ending) (w' : World) : Prop :=
  (∃ u o, e = .returned (.tuple #[u, .int .i64 (codeP l)]) ∧ OwnXs w.heap.size w' u o ∧ o.map Fx.fld = ansP l) ∧ Below w.heap.size w w'

theorem ansP_fit {d : List Fx} {l : List UInt8} (hm : d.map Fx.fld = ansP l) : FitX d := by
  unfold ansP at hm
  cases h : fieldsP l with
  | none =>
    rw [h] at hm
    rw [List.map_eq_nil_iff] at hm
    subst hm
    exact ⟨by unfold maxLen; simp, fun x hx => by simp at hx⟩
  | some fs => rw [h] at hm; exact ans_fit hm

theorem parse_plain (s : ByteArray) (w : World) (hp : PlainAt w) (hs : s.size ≤ 3000000000000) :
    Calls Tryd.prog 22 #[.string s] w fun e w' => PPost w s.data.toList e w' := by
  refine (parse_any s w hp hs).mono fun e w' h => ⟨?_, h.2⟩
  rcases h.1 with ⟨h0, rfl⟩ | ⟨h0, h1, rfl⟩ | ⟨h0, fs, d, h1, h2, h3⟩
  · have hf : fieldsP s.data.toList = some [] := by unfold fieldsP; rw [if_pos h0]
    exact ⟨_, [], by unfold codeP; rw [hf]; simp only [codeF_nil], own_none _ _, by unfold ansP; rw [hf]; simp only [ansF_nil]; rfl⟩
  · have hf : fieldsP s.data.toList = none := by unfold fieldsP; rw [if_neg h0]; exact h1
    exact ⟨_, [], by unfold codeP; rw [hf], own_none _ _, by unfold ansP; rw [hf]; rfl⟩
  · have hf : fieldsP s.data.toList = some fs := by unfold fieldsP; rw [if_neg h0]; exact h1
    unfold codeP ansP
    rw [hf]
    subst h2
    refine ansPlain ?_
    rcases h3.plain with h | ⟨h1, h | h | ⟨h2, h3, u, o, h4, h5, h6⟩⟩
    · exact Or.inl h
    · exact Or.inr ⟨h1, Or.inl h⟩
    · exact Or.inr ⟨h1, Or.inr (Or.inl h)⟩
    · exact Or.inr ⟨h1, Or.inr (Or.inr ⟨h2, h3, u, o, h4, h5.1, h6⟩)⟩

end Go.Proofs.YtmjchokacmbkoaaDoor

/-
  The contracts of the reference's Words, ParseWords and Parse.
-/
namespace Go.Proofs.YtmjchokacmbkoaaDoor
open Go.RowKit Go.Lib

def wordsAns (l : List UInt8) : List (List UInt8) := if l = [] then [] else splitL l

def WdPost (w : World) (l : List UInt8) (e : Ending) (w' : World) : Prop :=
  (∃ v ws, e = .returned v ∧ OwnT w.heap.size w' v ws ∧ ws.map (·.data.toList) = wordsAns l ∧ ws.length ≤ l.length + 1 ∧ ∀ x ∈ ws, x.size ≤ l.length) ∧ Below w.heap.size w w'

def WdSt (w : World) (s : ByteArray) (i f : Nat) (v : Value) (wr : World) : Prop :=
  ∃ ws : List ByteArray, OwnT w.heap.size wr v ws ∧ ws.length ≤ i ∧ (∀ x ∈ ws, x.size ≤ s.size) ∧ Below w.heap.size w wr ∧
    ((i ≤ s.size ∧ f ≤ i ∧ splitL s.data.toList = ws.map (·.data.toList) ++ splitL (s.data.toList.drop f) ∧ (32 : UInt8) ∉ (s.data.toList.drop f).take (i - f)) ∨ (i = s.size + 1 ∧ splitL s.data.toList = ws.map (·.data.toList)))

theorem ext_mid (s : ByteArray) (a b : Nat) : (s.extract a b).data.toList = (s.data.toList.drop a).take (b - a) := by
  rw [Lib.extract_data]

theorem mid_size (s : ByteArray) (a b : Nat) : (s.extract a b).size ≤ s.size := by
  simp; omega

theorem drop_mid {l : List UInt8} {f i : Nat} (hf : f ≤ i) : l.drop f = (l.drop f).take (i - f) ++ l.drop i := by
  have h : l.drop i = (l.drop f).drop (i - f) := by rw [List.drop_drop]; congr 1; omega
  rw [h, List.take_append_drop]

theorem split_at {l : List UInt8} {f i : Nat} (hf : f ≤ i) (hi : i < l.length) (hc : l[i] = 32) (hn : (32 : UInt8) ∉ (l.drop f).take (i - f)) : splitL (l.drop f) = (l.drop f).take (i - f) :: splitL (l.drop (i + 1)) := by
  have e : l.drop f = (l.drop f).take (i - f) ++ 32 :: l.drop (i + 1) := by
    conv => lhs; rw [drop_mid hf, List.drop_eq_getElem_cons hi, hc]
  have hx : Lib.indexByte (l.drop f) 32 = (((l.drop f).take (i - f)).length : Int) := by
    conv => lhs; rw [e]
    exact ix_here hn
  have hlen : ((l.drop f).take (i - f)).length = i - f := by rw [List.length_take, List.length_drop]; omega
  rw [hlen] at hx
  rw [splitL_yes hx, List.drop_drop]
  congr 3
  omega

theorem split_last {l : List UInt8} {f : Nat} (hn : (32 : UInt8) ∉ (l.drop f).take (l.length - f)) : splitL (l.drop f) = [l.drop f] := by
  rw [List.take_of_length_le (by rw [List.length_drop]; omega)] at hn
  exact splitL_no (ix_none hn)

theorem take_next {l : List UInt8} {f i : Nat} (hf : f ≤ i) (hi : i < l.length) (hc : l[i] ≠ 32) (hn : (32 : UInt8) ∉ (l.drop f).take (i - f)) : (32 : UInt8) ∉ (l.drop f).take (i + 1 - f) := by
  have hl : i - f < (l.drop f).length := by rw [List.length_drop]; omega
  rw [show i + 1 - f = (i - f) + 1 by omega, List.take_succ_eq_append_getElem hl, List.mem_append, List.mem_singleton, List.getElem_drop]
  rintro (h | h)
  · exact hn h
  · apply hc
    rw [h]
    congr 1
    omega

theorem txt_new (w : World) (t : ByteArray) : ∀ m u, ([.string t] : List Value)[m]? = some u → (w.alloc (.cells #[.string t] 9)).cell? ((⟨w.heap.size, 0, none⟩ : Addr).add m) = some u := by
  intro m u hm
  match m, hm with
  | 0, hm => simp at hm; subst hm; simp [Addr.add]

theorem txt_one (t : ByteArray) : ∀ u ∈ ([.string t] : List Value), u.oneCell' = true := by
  intro u hu; simp at hu; subst hu; rfl

theorem own_snoc {n0 : Nat} {w : World} {v : Value} {ts : List ByteArray} {t : ByteArray} (h : w.ownsRow n0 9 1 v (ts.length + 1) (ts.map Value.string ++ [.string t])) : OwnT n0 w v (ts ++ [t]) := by
  unfold OwnT
  simp only [List.length_append, List.length_cons, List.length_nil, List.map_append, List.map_cons, List.map_nil]
  exact h

set_option maxHeartbeats 4000000 in
set_option maxRecDepth 100000 in
theorem rwords_any (s : ByteArray) (w : World) (hs : s.size ≤ 1000000000000) :
    Calls Tryd.prog 48 #[.string s] w fun e w' => WdPost w s.data.toList e w' := by
  by_cases h0 : s.data.toList = []
  · have e : s = ⟨#[]⟩ := ba_eq h0
    subst e
    go_enter Tryd.func48, Tryd.ntmps48
    go_wp2_with fail
    go_ret
    exact ⟨⟨_, [], rfl, World.ownsRow_nil _ _ _ _, rfl, by simp, fun x hx => by simp at hx⟩, Below.refl _ _⟩
  obtain ⟨i0, hi0, hz0, hz1, hz2⟩ := info_parts Tryd.infoStr
  have HI := hid hi0
  have hne := nonempty_of (a := s) (fun e => h0 (List.length_eq_zero_iff.1 (by simpa using e)))
  have HAN : Hid (wordsAns s.data.toList = splitL s.data.toList) := by show _ = _; unfold wordsAns; rw [if_neg h0]
  have hlen : s.data.toList.length = s.size := by simp
  have HLEN := hid hlen
  clear hi0 h0 hlen
  go_enter Tryd.func48, Tryd.ntmps48
  go_wp2_with fail
  have ST0 : Hid (WdSt w s 0 0 (.slice none 0 0) w) := ⟨[], World.ownsRow_nil _ _ _ _, by simp, fun x hx => by simp at hx, Below.refl _ _, Or.inl ⟨by omega, by omega, by simp, by simp⟩⟩
  go_loopg [3, 4, 5] (s.size + 1) (fun g vl vf vi wr => ∃ i f : Nat, vi = .int .i64 i ∧ vf = .int .i64 f ∧ i ≤ s.size + 1 ∧ s.size + 1 - i ≤ g ∧ f ≤ s.size + 1 ∧ WdSt w s i f vl wr)
  case atStart => exact ⟨0, 0, rfl, rfl, by omega, by omega, by omega, ST0.out⟩
  case round =>
    clear ST0
    obtain ⟨i, f, rfl, rfl, hi, hgk, hf, ws, hot, hwl, hws, hb, hst⟩ := hrel
    have HOT := hid hot
    have HWS := hid hws
    have HB := hid hb
    have hsz := hb.size
    clear hot hws hb
    by_cases hlt : i ≤ s.size
    · obtain ⟨hfi, hsp, hno⟩ : f ≤ i ∧ splitL s.data.toList = ws.map (·.data.toList) ++ splitL (s.data.toList.drop f) ∧ (32 : UInt8) ∉ (s.data.toList.drop f).take (i - f) := by
        rcases hst with h | h
        · exact h.2
        · omega
      have HSP := hid hsp
      have HNO := hid hno
      have hlez : (i : Int) ≤ (s.size : Int) := by omega
      have hfz : (0 : Int) ≤ (f : Int) := by omega
      have hiz : (0 : Int) ≤ (i : Int) := by omega
      have hfiz : (f : Int) ≤ (i : Int) := by omega
      clear hst hsp hno
      by_cases he : i = s.size
      · have hez : ((i : Int) == (s.size : Int)) = true := beq_iff_eq.2 (by omega)
        have hl1 : splitL (s.data.toList.drop f) = [s.data.toList.drop f] := split_last (by rw [HLEN.out, ← he]; exact HNO.out)
        have hex : (s.extract f i).data.toList = s.data.toList.drop f := by
          rw [ext_mid, List.take_of_length_le (by rw [List.length_drop, HLEN.out]; omega)]
        have hxs := mid_size s f i
        have hnw : splitL s.data.toList = (ws ++ [s.extract f i]).map (·.data.toList) := by rw [HSP.out, hl1, List.map_append, List.map_cons, List.map_nil, hex]
        have HXS := hid hxs
        have HNW := hid hnw
        have HE := hid he
        clear he hl1 hex hxs hnw
        go_wp2_with (first | (at_builtin; refine wpList_append_own _ rfl _ _ 40 rfl w.heap.size 9 i0 (.string ⟨#[]⟩) 1 16 Tryd.underlying40 HI.out hz0 hz1 hz2 rfl (by decide) _ _ _ rfl (World.ownsRow.alloc HOT.out _) ⟨wr.heap.size, 0, none⟩ 1 1 [.string (s.extract f i)] rfl rfl (txt_new _ _) (txt_one _) (by unfold maxLen; omega) (by omega) (by simp; omega) ?_))
        intro v4 w4 hown4 hg4 _
        have HO4 := hid (own_snoc hown4)
        have HB4 : Hid (Below w.heap.size w w4) := (HB.out.alloc hsz _).grown hg4 (by simp; omega) (fun q hq => (World.ownsRow.lt HOT.out q hq).1)
        clear hown4 hg4
        go_wp2_with fail
        go_roundg (s.size + 1 - (i + 1))
        case measure => omega
        refine ⟨i + 1, i + 1, by go_num, by go_num, by omega, by omega, by omega, ws ++ [s.extract f i], HO4.out, by simp; omega, fun x hx => ?_, HB4.out, Or.inr ⟨by rw [HE.out], HNW.out⟩⟩
        rw [List.mem_append, List.mem_singleton] at hx
        rcases hx with hx | rfl
        · exact HWS.out x hx
        · exact HXS.out
      · have hez : ((i : Int) == (s.size : Int)) = false := beq_eq_false_iff_ne.2 (by omega)
        have hlt2 : i < s.size := by omega
        have hltz : (i : Int) < (s.size : Int) := by omega
        have hll : i < s.data.toList.length := by rw [HLEN.out]; exact hlt2
        have hby : s.data.toList[i] = s[i] := rfl
        obtain ⟨c, hc⟩ : ∃ c, s[i] = c := ⟨_, rfl⟩
        rw [hc] at hby
        have HBY := hid hby
        clear he hby
        by_cases h32 : c = 32
        · subst h32
          have hl1 := split_at hfi hll HBY.out HNO.out
          have hex : (s.extract f i).data.toList = (s.data.toList.drop f).take (i - f) := ext_mid _ _ _
          have hxs := mid_size s f i
          have hnw : splitL s.data.toList = (ws ++ [s.extract f i]).map (·.data.toList) ++ splitL (s.data.toList.drop (i + 1)) := by rw [HSP.out, hl1, List.map_append, List.map_cons, List.map_nil, hex]; simp
          have HXS := hid hxs
          have HNW := hid hnw
          clear hl1 hex hxs hnw
          go_wp2_with (first | (at_builtin; refine wpList_append_own _ rfl _ _ 40 rfl w.heap.size 9 i0 (.string ⟨#[]⟩) 1 16 Tryd.underlying40 HI.out hz0 hz1 hz2 rfl (by decide) _ _ _ rfl (World.ownsRow.alloc HOT.out _) ⟨wr.heap.size, 0, none⟩ 1 1 [.string (s.extract f i)] rfl rfl (txt_new _ _) (txt_one _) (by unfold maxLen; omega) (by omega) (by simp; omega) ?_))
          intro v4 w4 hown4 hg4 _
          have HO4 := hid (own_snoc hown4)
          have HB4 : Hid (Below w.heap.size w w4) := (HB.out.alloc hsz _).grown hg4 (by simp; omega) (fun q hq => (World.ownsRow.lt HOT.out q hq).1)
          clear hown4 hg4
          go_wp2_with fail
          go_roundg (s.size + 1 - (i + 1))
          case measure => omega
          refine ⟨i + 1, i + 1, by go_num, by go_num, by omega, by omega, by omega, ws ++ [s.extract f i], HO4.out, by simp; omega, fun x hx => ?_, HB4.out, Or.inl ⟨by omega, by omega, HNW.out, by simp⟩⟩
          rw [List.mem_append, List.mem_singleton] at hx
          rcases hx with hx | rfl
          · exact HWS.out x hx
          · exact HXS.out
        · have h32z : ((c.toNat : Int) == 32) = false := beq_eq_false_iff_ne.2 (fun e => h32 (UInt8.toNat_inj.1 (by show c.toNat = 32; omega)))
          have HN2 := hid (take_next hfi hll (by rw [HBY.out]; exact h32) HNO.out)
          clear h32
          go_wp2_with fail
          go_roundg (s.size + 1 - (i + 1))
          case measure => omega
          exact ⟨i + 1, f, by go_num, rfl, by omega, by omega, by omega, ws, HOT.out, by omega, HWS.out, HB.out, Or.inl ⟨by omega, by omega, HSP.out, HN2.out⟩⟩
    · have hlez : ¬ (i : Int) ≤ (s.size : Int) := by omega
      have hsp : splitL s.data.toList = ws.map (·.data.toList) := by
        rcases hst with h | h
        · omega
        · exact h.2
      have HSP := hid hsp
      clear hst hsp
      go_wp2_with fail
      go_ret
      refine ⟨⟨_, ws, rfl, HOT.out, by rw [HAN.out, HSP.out], by rw [HLEN.out]; omega, fun x hx => by rw [HLEN.out]; exact HWS.out x hx⟩, HB.out⟩

/-- What ParseWords answers. -/
def PwPost (w : World) (ls : List (List UInt8)) (e : Ending) (w' : World) : Prop :=
  ((fieldsW ls = none ∧ e = .returned (.tuple #[.slice none 0 0, .int .i64 4])) ∨
   ∃ fs, fieldsW ls = some fs ∧ ∃ u o, e = .returned (.tuple #[u, .int .i64 (codeF fs)]) ∧ OwnXs w.heap.size w' u o ∧ o.map Fx.fld = ansF fs) ∧ Below w.heap.size w w'

def PwSt (w : World) (ls : List (List UInt8)) (i : Nat) (v : Value) (wr : World) : Prop :=
  ∃ d fs, OwnXs w.heap.size wr v d ∧ d.map Fx.fld = fs ∧ fieldsW (ls.take i) = some fs ∧ d.length = i ∧ Below w.heap.size w wr

theorem fieldsW_no {a b : List (List UInt8)} {l : List UInt8} (h : wordO l = none) : fieldsW (a ++ l :: b) = none := by
  rw [fieldsW_append]
  cases fieldsW a with
  | none => rfl
  | some x => simp [fieldsW, h]

theorem fieldsW_snoc {a : List (List UInt8)} {l n t : List UInt8} {fs : List Fld} (ha : fieldsW a = some fs) (h : wordO l = some (n, t)) : fieldsW (a ++ [l]) = some (fs ++ [(⟨n.toArray⟩, [⟨t.toArray⟩])]) := by
  rw [fieldsW_append, ha]
  simp [fieldsW, h]

set_option maxHeartbeats 8000000 in
set_option maxRecDepth 100000 in
theorem rpw_any (p : Option Addr) (cap : Nat) (ws : List ByteArray) (w : World) (ht : TxtAt w p ws) (hl : ws.length ≤ 1000000000000) (hs : ∀ x ∈ ws, x.size ≤ 1000000000000) :
    Calls Tryd.prog 47 #[.slice p ws.length cap] w fun e w' => PwPost w (ws.map (·.data.toList)) e w' := by
  obtain ⟨j0, hj0, hy0, hy1, hy2⟩ := info_parts Tryd.infoFld
  have HJ := hid hj0
  have HT := hid ht
  have HS := hid hs
  clear hj0 ht hs
  have ST0 : Hid (PwSt w (ws.map (·.data.toList)) 0 (.slice none 0 0) w) := ⟨[], [], own_none _ _, rfl, by simp [fieldsW], rfl, Below.refl _ _⟩
  go_enter Tryd.func47, Tryd.ntmps47
  go_wp2_with fail
  go_loopg [4, 5] ws.length (fun g vv vi wr => ∃ i : Nat, vi = .int .i64 i ∧ i ≤ ws.length ∧ ws.length - i ≤ g ∧ PwSt w (ws.map (·.data.toList)) i vv wr)
  case atStart => exact ⟨0, rfl, by omega, by omega, ST0.out⟩
  case round =>
  clear ST0
  obtain ⟨i, rfl, hi, hgk, d, fs, hox, hdm, hfw, hdl, hb⟩ := hrel
  have HOX := hid hox
  have HDM := hid hdm
  have HFW := hid hfw
  have HDL := hid hdl
  have HB := hid hb
  have hsz := hb.size
  clear hox hdm hfw hdl
  by_cases hlt : i < ws.length
  · have hltz : (i : Int) < (ws.length : Int) := by omega
    have hiz : (0 : Int) ≤ (i : Int) := by omega
    rcases HT.out with hn | ⟨b, off, rfl, hc⟩
    · rw [hn] at hlt; simp at hlt
    have c0 : wr.cell? ⟨b, off + i, none⟩ = some (.string ws[i]) := (hb.cell (p := ⟨b, off + i, none⟩) (cell_block (hc i hlt))).trans (hc i hlt)
    have hts := HS.out _ (List.getElem_mem hlt)
    have hsplit : ws.map (·.data.toList) = (ws.map (·.data.toList)).take i ++ (ws[i]).data.toList :: (ws.map (·.data.toList)).drop (i + 1) := by
      have h1 : i < (ws.map (·.data.toList)).length := by simpa using hlt
      have h2 : (ws.map (·.data.toList))[i] = (ws[i]).data.toList := by simp
      rw [← h2, ← List.drop_eq_getElem_cons h1, List.take_append_drop]
    have htk : (ws.map (·.data.toList)).take (i + 1) = (ws.map (·.data.toList)).take i ++ [(ws[i]).data.toList] := by
      rw [List.take_succ_eq_append_getElem (by simpa using hlt)]; simp
    obtain ⟨x, hx⟩ : ∃ x, ws[i] = x := ⟨_, rfl⟩
    rw [hx] at c0 hts hsplit htk
    have HSPL := hid hsplit
    have HTK := hid htk
    have hxl : x.data.toList.length = x.size := by simp
    have HXL := hid hxl
    clear hx hsplit htk hc hb hxl
    go_wp2_with fail
    go_loopg [7] x.size (fun g vk ws => ∃ k : Nat, vk = .int .i64 k ∧ k ≤ x.size ∧ x.size - k ≤ g ∧ wr = ws ∧ Hid ((61 : UInt8) ∉ x.data.toList.take k))
    case atStart => exact ⟨0, rfl, by omega, by omega, rfl, (show Hid _ from by simp [Hid])⟩
    case round =>
    obtain ⟨k, rfl, hk, hgk2, rfl, HNK⟩ := hrel
    by_cases hkl : k < x.size
    · have hkz : (k : Int) < (x.size : Int) := by omega
      have hkd : decide ((k : Int) < (x.size : Int)) = true := decide_eq_true hkz
      have hk0 : (0 : Int) ≤ (k : Int) := by omega
      have hkll : k < x.data.toList.length := by rw [HXL.out]; exact hkl
      have hby : x.data.toList[k] = x[k] := rfl
      obtain ⟨c, hc⟩ : ∃ c, x[k] = c := ⟨_, rfl⟩
      rw [hc] at hby
      have HBY := hid hby
      clear hby
      by_cases h61 : c = 61
      · subst h61
        have hsp : x.data.toList = x.data.toList.take k ++ 61 :: x.data.toList.drop (k + 1) := by
          conv => lhs; rw [← List.take_append_drop k x.data.toList, List.drop_eq_getElem_cons hkll, HBY.out]
        have hix : Lib.indexByte x.data.toList 61 = (k : Int) := by
          have h1 := ix_here (b := x.data.toList.drop (k + 1)) HNK.out
          rw [← hsp, List.length_take] at h1
          rw [h1]
          congr 1
          omega
        have hk1 : (0 : Int) ≤ (k : Int) + 1 := by omega
        have hk2 : (k : Int) + 1 ≤ (x.size : Int) := by omega
        have hne : ((k : Int) == (x.size : Int)) = false := beq_eq_false_iff_ne.2 (by omega)
        have hrs : (x.extract (k + 1) x.size).size ≤ 140737488355327 := by simp; omega
        have HRR := hid (rread_any (x.extract (k + 1) x.size) wr hrs)
        rw [ext_tail] at HRR
        have HIX := hid hix
        clear hsp hix hrs
        cases hrd : readL (x.data.toList.drop (k + 1)) with
        | none =>
          rw [hrd] at HRR
          simp only [readV] at HRR
          have HO : Hid (wordO x.data.toList = none) := by
            show _ = _; unfold wordO; rw [if_neg (by rw [HIX.out]; omega), HIX.out, Int.toNat_natCast, hrd]; rfl
          clear hrd
          go_wp2_with (first | (go_at_call 29; refine HRR.out.mono ?_; rintro e w2 ⟨rfl, hb2⟩))
          go_ret2
          exact ⟨Or.inl ⟨by rw [HSPL.out]; exact fieldsW_no HO.out, rfl⟩, bel_then HB.out HB.out.size hb2⟩
        | some t =>
          rw [hrd] at HRR
          simp only [readV] at HRR
          have HO : Hid (wordO x.data.toList = some (x.data.toList.take k, t)) := by
            show _ = _; unfold wordO; rw [if_neg (by rw [HIX.out]; omega), HIX.out, Int.toNat_natCast, hrd]; rfl
          clear hrd
          have HE := hid (ext_take x k)
          go_wp2_with (first | (go_at_call 29; refine HRR.out.mono ?_; rintro e w2 ⟨rfl, hb2⟩; have hb2s := hb2.size; have HXA := hid ((HOX.out.on hb2).on (((Below.refl _ w2).alloc (Nat.le_refl _) (.cells #[.string ⟨t.toArray⟩] 9)).alloc (by simp) (.cells #[.string (x.extract 0 k), .slice (some ⟨w2.heap.size, 0, none⟩) 1 1] 45))); have HC := hid (news_x (w2.alloc (.cells #[.string ⟨t.toArray⟩] 9)) ⟨x.extract 0 k, some ⟨w2.heap.size, 0, none⟩, 1, [⟨t.toArray⟩]⟩); rw [World.size_alloc] at HC) | (at_builtin; refine wpList_append_own _ rfl _ _ 22 rfl w.heap.size 45 j0 (.agg #[.string ⟨#[]⟩, .slice none 0 0]) 2 40 Tryd.underlying22 HJ.out hy0 hy1 hy2 rfl (by decide) _ _ _ rfl HXA.out.1 ⟨w2.heap.size + 1, 0, none⟩ 1 1 (cellsX [⟨x.extract 0 k, some ⟨w2.heap.size, 0, none⟩, 1, [⟨t.toArray⟩]⟩]) rfl rfl HC.out (cellsX_one _) (by rw [HDL.out]; unfold maxLen; omega) (by rw [HDL.out]; omega) (by simp; omega) ?_))
          intro v4 w4 hown4 hg4 _
          have hot0 : OwnT w2.heap.size (w2.alloc (.cells #[.string ⟨t.toArray⟩] 9)) (.slice (some ⟨w2.heap.size, 0, none⟩) 1 1) [⟨t.toArray⟩] := World.ownsRow_lit w2 #[.string ⟨t.toArray⟩] 1 (Nat.le_refl _) (by decide) rfl
          have hot1 : OwnT w.heap.size ((w2.alloc (.cells #[.string ⟨t.toArray⟩] 9)).alloc (.cells #[.string (x.extract 0 k), .slice (some ⟨w2.heap.size, 0, none⟩) 1 1] 45)) (.slice (some ⟨w2.heap.size, 0, none⟩) 1 1) [⟨t.toArray⟩] := own_weak (OwnT.on hot0 ((Below.refl _ _).alloc (Nat.le_refl _) _)) (Nat.le_trans hsz hb2s)
          have HX4 := hid (HXA.out.put (x := ⟨x.extract 0 k, some ⟨w2.heap.size, 0, none⟩, 1, [⟨t.toArray⟩]⟩) hot1 hown4 hg4)
          have hb3 : Below w.heap.size w w2 := bel_then HB.out HB.out.size hb2
          have HB4 : Hid (Below w.heap.size w w4) := ((hb3.alloc (by omega) _).alloc (by simp; omega) _).grown hg4 (by simp; omega) (fun q hq => (World.ownsRow.lt HXA.out.1 q hq).1)
          clear hown4 hg4 hot0 hot1 hb3
          go_wp2_with fail
          go_roundg (ws.length - (i + 1))
          case measure => omega
          refine ⟨i + 1, by go_num, by omega, by omega, _, _, HX4.out, rfl, ?_, by rw [List.length_append, HDL.out]; rfl, HB4.out⟩
          rw [HTK.out, fieldsW_snoc HFW.out HO.out, List.map_append, HDM.out]
          simp only [List.map_cons, List.map_nil, Fx.fld, HE.out]
      · have h61z : ((c.toNat : Int) != 61) = true := by
          rw [bne_iff_ne]
          exact fun e => h61 (UInt8.toNat_inj.1 (by show c.toNat = 61; omega))
        have HN2 : Hid ((61 : UInt8) ∉ x.data.toList.take (k + 1)) := by
          show _ ∉ _
          rw [List.take_succ_eq_append_getElem hkll, List.mem_append, List.mem_singleton, HBY.out]
          rintro (h | h)
          · exact HNK.out h
          · exact h61 h.symm
        clear h61
        go_wp2_with fail
        go_roundg (x.size - (k + 1))
        case measure => omega
        case rel => exact ⟨k + 1, by go_num, by omega, by omega, rfl, HN2⟩
    · have hkz : ¬ (k : Int) < (x.size : Int) := by omega
      have hkd : decide ((k : Int) < (x.size : Int)) = false := decide_eq_false hkz
      have hke : ((k : Int) == (x.size : Int)) = true := beq_iff_eq.2 (by omega)
      have HO : Hid (wordO x.data.toList = none) := by
        show _ = _
        have h1 := HNK.out
        rw [List.take_of_length_le (by rw [HXL.out]; omega)] at h1
        unfold wordO
        rw [if_pos (ix_none h1)]
      go_wp2_with fail
      go_ret2
      exact ⟨Or.inl ⟨by rw [HSPL.out]; exact fieldsW_no HO.out, rfl⟩, HB.out⟩
  have hltz : ¬ (i : Int) < (ws.length : Int) := by omega
  have hfw2 : fieldsW (ws.map (·.data.toList)) = some fs := by
    have h1 := HFW.out
    rw [List.take_of_length_le (by rw [List.length_map]; omega)] at h1
    exact h1
  obtain ⟨f1, f2, f3⟩ := fieldsW_len (B := 1000000000000) (ws.map (·.data.toList)) (fun l hl => by
    obtain ⟨x, hx, rfl⟩ := List.mem_map.1 hl
    simpa using HS.out x hx) fs hfw2
  rw [List.length_map] at f1 f2
  have hfit : FitX d := ⟨by rw [HDL.out]; unfold maxLen; omega, fun x hx => by
    have := f3 x.fld (by rw [← HDM.out]; exact List.mem_map.2 ⟨x, hx, rfl⟩)
    refine ⟨?_, ?_, fun t ht => ?_⟩
    · unfold maxLen; omega
    · rw [this.2.1]; unfold maxLen; omega
    · have := this.2.2 t ht; unfold maxLen; omega⟩
  have HNM := hid (rnorm_plain u4 d wr HOX.out.is hfit (by rw [HDL.out]; omega) (by rw [HDM.out, f2]; omega))
  rw [HDM.out] at HNM
  have HF2 := hid hfw2
  clear f1 f2 f3 hfit hfw2
  go_wp2_with (first | (go_at_call 11; refine HNM.out.mono ?_; rintro e w2 ⟨⟨u2, o2, rfl, ho2, hm2⟩, hb2⟩))
  go_ret2
  exact ⟨Or.inr ⟨fs, HF2.out, u2, o2, rfl, ⟨own_weak ho2.1 hsz, fun x hx => own_weak (ho2.2 x hx) hsz⟩, hm2⟩, bel_then HB.out HB.out.size hb2⟩

theorem fieldsP_words (l : List UInt8) : fieldsW (wordsAns l) = fieldsP l := by
  unfold wordsAns fieldsP
  split
  · rfl
  · rfl

theorem pw_plain {N : Nat} {l : List UInt8} {e : Ending} {w' : World} (h : (fieldsW (wordsAns l) = none ∧ e = .returned (.tuple #[.slice none 0 0, .int .i64 4])) ∨
   ∃ fs, fieldsW (wordsAns l) = some fs ∧ ∃ u o, e = .returned (.tuple #[u, .int .i64 (codeF fs)]) ∧ OwnXs N w' u o ∧ o.map Fx.fld = ansF fs) : ∃ u o, e = .returned (.tuple #[u, .int .i64 (codeP l)]) ∧ OwnXs N w' u o ∧ o.map Fx.fld = ansP l := by
  rw [fieldsP_words] at h
  unfold codeP ansP
  rcases h with ⟨h, rfl⟩ | ⟨fs, h, hr⟩
  · rw [h]
    exact ⟨_, [], rfl, own_none _ _, rfl⟩
  · rw [h]
    exact hr

set_option maxHeartbeats 2000000 in
set_option maxRecDepth 100000 in
theorem rparse_any (s : ByteArray) (w : World) (hs : s.size ≤ 500000000000) :
    Calls Tryd.prog 25 #[.string s] w fun e w' => PPost w s.data.toList e w' := by
  have HW := hid (rwords_any s w (by omega))
  have hlen : s.data.toList.length = s.size := by simp
  have HLEN := hid hlen
  clear hlen
  go_enter Tryd.func25, Tryd.ntmps25
  go_wp2_with (first
    | (go_at_call 48; refine HW.out.mono ?_; rintro e w1 ⟨⟨v1, ws, rfl, hot, hwm, hwl, hws⟩, hb1⟩; obtain ⟨p1, c1, rfl⟩ := own_slice hot; rw [HLEN.out] at hwl hws; have HPW := hid (rpw_any p1 c1 ws w1 hot.txtAt (by omega) (fun x hx => Nat.le_trans (hws x hx) (by omega))); have HWM := hid hwm; rw [HWM.out] at HPW; clear hot hwm hws hwl)
    | (go_at_call 47; refine HPW.out.mono ?_; rintro e w2 ⟨h, hb2⟩; obtain ⟨u, o, rfl, ho, hm⟩ := pw_plain h))
  go_ret2
  exact ⟨⟨u, o, rfl, ⟨own_weak ho.1 hb1.size, fun x hx => own_weak (ho.2 x hx) hb1.size⟩, hm⟩, bel_then hb1 hb1.size hb2⟩

end Go.Proofs.YtmjchokacmbkoaaDoor

/-
  ValueParses answers true, where the text is short enough.
-/
namespace Go.Proofs.YtmjchokacmbkoaaDoor
open Go.RowKit Go.Lib

theorem codeP_may {l : List UInt8} (h : codeP l = 0) : mayB (ansP l) = true := by
  unfold codeP at h
  unfold ansP
  cases hf : fieldsP l with
  | none => rw [hf] at h; simp at h
  | some fs =>
    rw [hf] at h
    simp only at h ⊢
    unfold ansF
    rw [if_pos h]
    exact (codeF_zero h).2.2

set_option maxHeartbeats 2000000 in
set_option maxRecDepth 100000 in
theorem parses_any (s : ByteArray) (w : World) (hp : PlainAt w) (hs : s.size ≤ 500000000000) :
    Calls Tryd.prog 7 #[.string s] w fun e w' => e = .returned (.bool true) ∧ Below w.heap.size w w' := by
  have HP := hid hp
  clear hp
  have HMY := hid (codeP_may (l := s.data.toList))
  obtain ⟨k, hk⟩ : ∃ k, codeP s.data.toList = k := ⟨_, rfl⟩
  rw [hk] at HMY
  have HK := hid hk
  clear hk
  have HPA : Hid (∀ W, PlainAt W → Calls Tryd.prog 22 #[.string s] W fun e w' => PPost W s.data.toList e w') := fun W h => parse_plain s W h (by omega)
  have HRP : Hid (∀ W, Calls Tryd.prog 25 #[.string s] W fun e w' => PPost W s.data.toList e w') := fun W => rparse_any s W hs
  by_cases h0 : k = 0
  · subst h0
    have HMZ := hid (HMY.out rfl)
    clear HMY
    go_enter Tryd.func7, Tryd.ntmps7
    go_wp2_with (first
      | (go_at_call 9; refine (fixed_any _ HP.out).mono ?_; rintro e w1 ⟨rfl, q1⟩)
      | (go_at_call 22; refine (HPA.out w1 (HP.out.on q1)).mono ?_; rintro e w2 ⟨⟨u2, d2, rfl, o2, m2⟩, q2⟩; rw [HK.out]; have b2 : Below w.heap.size w w2 := bel_then q1 q1.size q2; have O2 := hid o2; have M2 := hid m2; clear o2 m2)
      | (go_at_call 25; refine (HRP.out w2).mono ?_; rintro e w3 ⟨⟨u3, d3, rfl, o3, m3⟩, q3⟩; rw [HK.out]; have b3 : Below w.heap.size w w3 := bel_then b2 b2.size q3; have O23 := hid (O2.out.on q3).is; have HSM := hid (same_any u2 u3 d2 d3 0 w3 O23.out o3.is (ansP_fit M2.out) (ansP_fit m3)); rw [show decide (d2.map Fx.fld = d3.map Fx.fld) = true from decide_eq_true (M2.out.trans m3.symm)] at HSM; clear o3 m3))
    refine HSM.out.mono ?_
    rintro e w4 ⟨rfl, n, rfl⟩
    have b4 : Below w.heap.size w (w3.drewN n) := bel_drewN b3 n
    have HI4 : Hid (IsXs (w3.drewN n) u2 d2) := hid O23.out
    have HMV := hid (may_any u2 d2 (w3.drewN n) HI4.out (ansP_fit M2.out))
    have HM0 : Hid (mayB (d2.map Fx.fld) = true) := hid ((congrArg mayB M2.out).trans HMZ.out)
    rw [HM0.out] at HMV
    go_wp2_with (first | (go_at_call 13; refine HMV.out.mono ?_; rintro e w5 ⟨rfl, q5⟩))
    go_ret
    exact ⟨rfl, bel_then b4 b4.size q5.below⟩
  · have hk0 : (k != 0) = true := by rw [bne_iff_ne]; exact h0
    clear h0
    go_enter Tryd.func7, Tryd.ntmps7
    go_wp2_with (first
      | (go_at_call 9; refine (fixed_any _ HP.out).mono ?_; rintro e w1 ⟨rfl, q1⟩)
      | (go_at_call 22; refine (HPA.out w1 (HP.out.on q1)).mono ?_; rintro e w2 ⟨⟨u2, d2, rfl, o2, m2⟩, q2⟩; rw [HK.out]; have b2 : Below w.heap.size w w2 := bel_then q1 q1.size q2; have O2 := hid o2; have M2 := hid m2; clear o2 m2)
      | (go_at_call 25; refine (HRP.out w2).mono ?_; rintro e w3 ⟨⟨u3, d3, rfl, o3, m3⟩, q3⟩; rw [HK.out]; have b3 : Below w.heap.size w w3 := bel_then b2 b2.size q3; have O23 := hid (O2.out.on q3).is; have HSM := hid (same_any u2 u3 d2 d3 k w3 O23.out o3.is (ansP_fit M2.out) (ansP_fit m3)); rw [show decide (d2.map Fx.fld = d3.map Fx.fld) = true from decide_eq_true (M2.out.trans m3.symm)] at HSM; clear o3 m3)
      | (go_at_call 12; refine HSM.out.mono ?_; rintro e w4 ⟨rfl, n, rfl⟩; have b4 : Below w.heap.size w (w3.drewN n) := bel_drewN b3 n))
    go_ret
    exact ⟨rfl, b4⟩

end Go.Proofs.YtmjchokacmbkoaaDoor
