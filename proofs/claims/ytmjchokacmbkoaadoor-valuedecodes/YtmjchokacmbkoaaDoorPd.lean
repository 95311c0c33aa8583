/-
  Texts of this claim, one behind the other: Bas Rname Rmay Renc Byt Rdo Rdec Sam Dcd.
-/
import Derived.Test.YtmjchokacmbkoaaDoorRows
import Derived.Test.YtmjchokacmbkoaaDoorPa
import Derived.MakeChecks
import Derived.ProofKit
import Derived.OpenShut
import Derived.Lay
import Derived.Stop.Joined
import Derived.SliceStrings
import Derived.Deep.SlicePairs
import Derived.Lib.LaidU8
import Derived.SizedLaws
import Derived.ChangeSlices
import Derived.Test.YtmjchokacmbkoaaDoorPb
import Derived.Test.YtmjchokacmbkoaaDoorPc
import Derived.RangeFuncBox
/-
  What each row's proof opens its arguments by, and what the laid variables give.
-/
namespace Go.Proofs.YtmjchokacmbkoaaDoor
open Go.ChangeShapes Go.WideShapes Go.ChangeAt Go.RowKit Go.Lib Go.Deep

theorem Tryd.own : ownKnob Tryd.prog.godebug = none := by kernel_rfl
theorem Tryd.laidOut : laidOutB Tryd.prog = true := by kernel_rfl
theorem Tryd.cellsFld : Tryd.prog.cellsOf 45 = 2 := by kernel_rfl
theorem Tryd.cellsStr : Tryd.prog.cellsOf 9 = 1 := by kernel_rfl
theorem Tryd.cellsStrs : Tryd.prog.cellsOf 40 = 1 := by kernel_rfl
theorem Tryd.cellsByte : Tryd.prog.cellsOf 5 = 1 := by kernel_rfl

/-- What the rows list. -/
def seatLaid : List (String × DataW Unit) := [("unicode/utf8.acceptRanges", Rows.laid_unicode_utf8_acceptRanges), ("folio/value.plain", Rows.laid_folio_value_plain), ("unicode/utf8.first", Rows.laid_unicode_utf8_first)]

theorem gPlain : Tryd.prog.globalNamed "folio/value.plain" = some 0 := by kernel_rfl
theorem tPlain : (Tryd.prog.globals[0]?).map (·.type) = some 95 := by kernel_rfl
theorem uPair : Tryd.prog.underlying 94 = some (.array 2 5) := by kernel_rfl
theorem cPair : Tryd.prog.cellsOf 94 = 2 := by kernel_rfl
theorem cPlain : Tryd.prog.cellsOf 95 = 26 := by kernel_rfl

def plainLits : List (Int × Int) := [(97, 122), (65, 90), (48, 57), (45, 45), (46, 46), (95, 95), (124, 124), (42, 42), (64, 64), (47, 47), (58, 58), (43, 43), (44, 44)]

theorem plain_data : (Rows.laid_folio_value_plain : DataW Unit) = .agg (plainLits.map fun p => .agg [.lit (.int .u8 p.1), .lit (.int .u8 p.2)]) := rfl

theorem one_byte_read {W : World} {f : Nat} {cs : List Value} {k : Int} {q : List MemPlace} (h : DataW.trod (fun _ => ()) Tryd.prog W 0 (fun _ => true) false f 5 cs = some (.lit (.int .u8 k), q)) : cs = [.int .u8 k] := by
  obtain ⟨n, rfl, e, _⟩ := DataW.trod_int Tryd.underlying5 h
  cases e
  rfl

theorem pair_cells {W : World} {f : Nat} {cs : List Value} {a b : Int} {q : List MemPlace} (hl : cs.length = 2) (h : DataW.trod (fun _ => ()) Tryd.prog W 0 (fun _ => true) false f 94 cs = some (.agg [.lit (.int .u8 a), .lit (.int .u8 b)], q)) : cs = [.int .u8 a, .int .u8 b] := by
  match cs, hl with
  | [x, y], _ =>
    obtain ⟨f0, d0, q0, e0, h0⟩ := array_elem uPair h 0 (by decide)
    obtain ⟨f1, d1, q1, e1, h1⟩ := array_elem uPair h 1 (by decide)
    rw [Tryd.cellsByte] at h0 h1
    simp only [List.getElem?_cons_zero, List.getElem?_cons_succ, Option.some.injEq] at e0 e1
    subst e0 e1
    have k0 := one_byte_read h0
    have k1 := one_byte_read h1
    simp at k0 k1
    rw [k0, k1]

theorem list_pairs : ∀ (n : Nat) (cs : List Value) (ps : List (Int × Int)), cs.length = n * 2 → ps.length = n → (∀ i (h : i < ps.length), (cs.drop (i * 2)).take 2 = [.int .u8 ps[i].1, .int .u8 ps[i].2]) → cs = ps.flatMap fun p => [.int .u8 p.1, .int .u8 p.2]
  | 0, cs, ps, hc, hp, _ => by
    rw [List.length_eq_zero_iff.1 (by omega : cs.length = 0), List.length_eq_zero_iff.1 hp]
    rfl
  | n + 1, cs, ps, hc, hp, h => by
    match ps, hp, cs, hc with
    | _ :: _, _, [], hc => simp at hc
    | _ :: _, _, [_], hc => simp at hc; omega
    | p :: ps, hp, x :: y :: cs, hc =>
      have h0 := h 0 (by simp)
      simp at h0
      have := list_pairs n cs ps (by simp at hc; omega) (by simpa using hp) (fun i hi => by
        have := h (i + 1) (by simp; omega)
        rw [show (i + 1) * 2 = i * 2 + 1 + 1 by omega] at this
        simpa using this)
      rw [List.flatMap_cons, ← this, h0.1, h0.2]
      rfl

theorem plain_of_laid {W : World} (h : laidMetH Tryd.prog seatLaid W) : PlainAt W := by
  rw [MakeChecks.laidMetH_plain _ _ _ (by kernel_rfl)] at h
  obtain ⟨g, t, cs, fuel, p, hg, ht, hv, hd⟩ := laidMet.reads h (n := "folio/value.plain") (d := Rows.laid_folio_value_plain) (.tail _ (.head _))
  obtain rfl := Option.some.inj (gPlain.symm.trans hg)
  obtain rfl := Option.some.inj (tPlain.symm.trans ht)
  rw [plain_data] at hd
  obtain ⟨_, _, _, _, hlen, _, _⟩ := DataW.trod_array Tryd.underlying95 hd
  rw [cPlain] at hlen
  have hcs := list_pairs 13 cs.toList plainLits (by simpa using hlen) rfl (fun i hi => by
    have hi13 : i < 13 := hi
    obtain ⟨f, d, q, e, hx⟩ := array_elem Tryd.underlying95 hd i hi13
    rw [cPair] at hx
    rw [List.getElem?_map, List.getElem?_eq_getElem hi] at e
    simp only [Option.map_some, Option.some.injEq] at e
    subst e
    exact pair_cells (by rw [List.length_take, List.length_drop]; rw [hlen]; omega) hx)
  have hv' : W.var? Tryd.prog "folio/value.plain" = some cs := hv
  simp only [World.var?, hg, Option.bind_some] at hv'
  split at hv'
  · rename_i c t' fr hh
    cases hv'
    refine ⟨t', fr, ?_⟩
    rw [hh]
    have : cs = plainCells := Array.toList_inj.1 (by rw [hcs]; rfl)
    rw [this]
  · cases hv'

/-- A slice of texts that came in. -/
theorem open_txt {H : Type} {enc : TypeId × Value → H} {W : World} {f : Nat} {v : Value} {x : DataW H × List MemPlace} (h : DataW.trod enc Tryd.prog W 0 (fun _ => true) true f 40 [v] = some x) :
    ∃ p cap, ∃ ts : List ByteArray, v = .slice p ts.length cap ∧ TxtAt W p ts ∧ FitT ts := by
  rcases open_strings Tryd.underlying40 Tryd.underlying9 Tryd.cellsStr h with ⟨hcs, _⟩ | ⟨a, l, c, ss, hcs, _, hl, hm, hz, _, hcell, hws⟩
  · simp at hcs
    exact ⟨none, 0, [], hcs, Or.inl rfl, by unfold maxLen; simp, fun t ht => by simp at ht⟩
  · simp at hcs
    have hz' : ss.length = c := by simpa using hz
    have hlen : (ss.take l).length = l := by rw [List.length_take]; omega
    refine ⟨some a, c, ss.take l, by rw [hlen]; exact hcs, ?_, by omega, fun t ht => hws t (List.mem_of_mem_take ht)⟩
    by_cases h0 : l = 0
    · subst h0; exact Or.inl rfl
    · right
      have hc0 := hcell 0 (by omega)
      obtain ⟨b, off, spot⟩ := a
      have hspot : spot = none := by simpa [Addr.add] using World.cell?_spot hc0
      subst hspot
      refine ⟨b, off, rfl, fun i hi => ?_⟩
      rw [hlen] at hi
      have := hcell i (by omega)
      rw [addr_add] at this
      rw [this, List.getElem_take, List.getD_eq_getElem?_getD, List.getElem?_eq_getElem (by omega)]
      rfl

set_option maxRecDepth 100000 in
/-- A slice of fields that came in. -/
theorem open_fields {H : Type} {enc : TypeId × Value → H} {W : World} {b0 : Nat} {v : Value} {dd : DataW H} {p : List MemPlace}
    (hv : Value.okWide Tryd.prog W .any b0 22 v) (h : DataW.Trod enc Tryd.prog W 0 (fun _ => true) true 22 v dd p) : ∃ d : List Fx, IsXs W v d ∧ FitX d := by
  obtain ⟨a0, len, cap, rfl⟩ := okWide_slice Tryd.underlying22 hv
  obtain ⟨fuel, hf⟩ := h
  rcases open_slice_pairs Tryd.underlying22 Tryd.underlying45 Tryd.cellsFld rfl rfl Tryd.cellsStr Tryd.cellsStrs hf with ⟨hcs, _⟩ | ⟨a, l, c, m, n, V0, V1, D0, D1, P0, P1, hcs, _, hl, hm, hmm, hdat, hall⟩
  · simp [Value.cells] at hcs
    obtain ⟨rfl, rfl, rfl⟩ := hcs
    exact ⟨[], ⟨none, 0, rfl, Or.inl rfl, fun x hx => by simp at hx⟩, by unfold maxLen; simp, fun x hx => by simp at hx⟩
  · simp [Value.cells] at hcs
    obtain ⟨rfl, rfl, rfl⟩ := hcs
    have hm' : m = cap := by simpa using hmm
    subst hm'
    have each : ∀ i, i < m → ∃ x : Fx, V0 i = .string x.name ∧ V1 i = x.sl ∧ TxtAt W x.p x.txt ∧ FitF x.fld := by
      intro i hi
      obtain ⟨_, _, h3, h4⟩ := hall i hi
      obtain ⟨s, e0, _, hs⟩ := DataW.trod_string Tryd.underlying9 h3
      simp only [List.cons.injEq, and_true] at e0
      obtain ⟨q, cc, ts, e1, ht, hft⟩ := open_txt h4
      exact ⟨⟨s, q, cc, ts⟩, e0, e1, ht, hs, hft⟩
    by_cases h0 : len = 0
    · subst h0
      exact ⟨[], ⟨_, _, rfl, Or.inl rfl, fun x hx => by simp at hx⟩, by unfold maxLen; simp, fun x hx => by simp at hx⟩
    · have hc0 := (hall 0 (by omega)).1
      obtain ⟨b, off, spot⟩ := a
      have hspot : spot = none := by simpa [Addr.add] using World.cell?_spot hc0
      subst hspot
      let f : Nat → Fx := fun i => if h : i < m then (each i h).choose else default
      have fs : ∀ i (h : i < m), V0 i = .string (f i).name ∧ V1 i = (f i).sl ∧ TxtAt W (f i).p (f i).txt ∧ FitF (f i).fld := fun i h => by
        have e : f i = (each i h).choose := dif_pos h
        rw [e]
        exact (each i h).choose_spec
      have hlen : ((List.range len).map f).length = len := by simp
      refine ⟨(List.range len).map f, ⟨_, m, by rw [hlen], Or.inr ⟨b, off, rfl, fun i hi => ?_⟩, fun x hx => ?_⟩, by rw [hlen]; omega, fun x hx => ?_⟩
      · have hi0 : i < len := by simpa using hi
        obtain ⟨h1, h2, _, _⟩ := hall i (by omega)
        obtain ⟨g1, g2, _⟩ := fs i (by omega)
        rw [addr_add] at h1 h2
        have ef : ((List.range len).map f)[i]'hi = f i := by simp
        rw [ef, h1, ← g1]
        refine ⟨rfl, ?_⟩
        rw [Nat.add_assoc, h2, g2]
      · obtain ⟨i, hi, rfl⟩ := List.mem_map.1 hx
        exact (fs i (by have := List.mem_range.1 hi; omega)).2.2.1
      · obtain ⟨i, hi, rfl⟩ := List.mem_map.1 hx
        exact (fs i (by have := List.mem_range.1 hi; omega)).2.2.2

set_option maxRecDepth 100000 in
/-- A slice of bytes that came in. -/
theorem open_bytes {H : Type} {enc : TypeId × Value → H} {W : World} {b0 : Nat} {v : Value} {dd : DataW H} {p : List MemPlace}
    (hv : Value.okWide Tryd.prog W .any b0 29 v) (h : DataW.Trod enc Tryd.prog W 0 (fun _ => true) true 29 v dd p) : ∃ l : List UInt8, RestAt W.heap.size W v l := by
  obtain ⟨a0, len, cap, rfl⟩ := okWide_slice Tryd.underlying29 hv
  obtain ⟨fuel, hf⟩ := h
  rcases open_ints Tryd.underlying29 Tryd.underlying5 Tryd.cellsByte hf with ⟨hcs, _⟩ | ⟨a, l, c, zs, hcs, _, hl, hm, hz, _, hcell, hws⟩
  · simp [Value.cells] at hcs
    obtain ⟨rfl, rfl, rfl⟩ := hcs
    exact ⟨[], none, 0, rfl, by simp, by unfold maxLen; omega, Or.inl rfl⟩
  · simp [Value.cells] at hcs
    obtain ⟨rfl, rfl, rfl⟩ := hcs
    have hz' : zs.length = cap := by simpa using hz
    have hlen : ((zs.take len).map fun z => UInt8.ofNat z.toNat).length = len := by rw [List.length_map, List.length_take]; omega
    refine ⟨(zs.take len).map fun z => UInt8.ofNat z.toNat, some a, cap, by rw [hlen], by rw [hlen]; exact hl, hm, ?_⟩
    by_cases h0 : len = 0
    · subst h0; exact Or.inl (by simp)
    · right
      have hc0 := hcell 0 (by omega)
      obtain ⟨b, off, spot⟩ := a
      have hspot : spot = none := by simpa [Addr.add] using World.cell?_spot hc0
      subst hspot
      refine ⟨b, off, rfl, ?_, fun i hi => ?_⟩
      · have := cell_block hc0
        simpa [Addr.add] using this
      · rw [hlen] at hi
        have := hcell i (by omega)
        rw [addr_add, List.getD_eq_getElem?_getD, List.getElem?_eq_getElem (by omega)] at this
        rw [this]
        have hw := hws _ (List.getElem_mem (show i < zs.length by omega))
        have hb : 0 ≤ zs[i] ∧ zs[i] ≤ 255 := by simpa [Lit.wf, IntKind.min, IntKind.max, IntKind.signed, IntKind.bits] using hw
        simp
        omega

end Go.Proofs.YtmjchokacmbkoaaDoor

/-
  The contracts of the reference's class and Field.
-/
namespace Go.Proofs.YtmjchokacmbkoaaDoor
open Go.RowKit

def cls (n : Int) : Int := if bigB n then 1 else if smallB n then 2 else if digB n then 3 else if n = 45 ∨ n = 46 then 4 else 0

theorem cls_cases (n : Int) :
    (cls n = 1 ∧ bigB n = true ∧ smallB n = false ∧ letB n = true ∧ lodB n = true ∧ idB n = true) ∨
    (cls n = 2 ∧ bigB n = false ∧ smallB n = true ∧ letB n = true ∧ lodB n = true ∧ idB n = true) ∨
    (cls n = 3 ∧ bigB n = false ∧ smallB n = false ∧ letB n = false ∧ lodB n = true ∧ idB n = true) ∨
    (cls n = 4 ∧ bigB n = false ∧ smallB n = false ∧ letB n = false ∧ lodB n = false ∧ idB n = true) ∨
    (cls n = 0 ∧ bigB n = false ∧ smallB n = false ∧ letB n = false ∧ lodB n = false ∧ idB n = false) := by
  cases h1 : bigB n
  · cases h2 : smallB n
    · cases h3 : digB n
      · by_cases h4 : n = 45 ∨ n = 46
        · right; right; right; left
          refine ⟨by simp [cls, h1, h2, h3, h4], rfl, rfl, by simp [letB, h1, h2], by simp [lodB, letB, h1, h2, h3], ?_⟩
          rcases h4 with rfl | rfl <;> decide
        · right; right; right; right
          have h45 : (n == 45) = false := beq_eq_false_iff_ne.2 fun e => h4 (.inl e)
          have h46 : (n == 46) = false := beq_eq_false_iff_ne.2 fun e => h4 (.inr e)
          exact ⟨by simp [cls, h1, h2, h3, h4], rfl, rfl, by simp [letB, h1, h2], by simp [lodB, letB, h1, h2, h3], by simp [idB, lodB, letB, h1, h2, h3, h45, h46]⟩
      · right; right; left
        exact ⟨by simp [cls, h1, h2, h3], rfl, rfl, by simp [letB, h1, h2], by simp [lodB, h3], by simp [idB, lodB, h3]⟩
    · right; left
      exact ⟨by simp [cls, h1, h2], rfl, rfl, by simp [letB, h2], by simp [lodB, letB, h2], by simp [idB, lodB, letB, h2]⟩
  · left
    have h2 : smallB n = false := by
      rw [bigB_true] at h1
      rw [Bool.eq_false_iff, Ne, smallB_true]; omega
    exact ⟨by simp [cls, h1], rfl, h2, by simp [letB, h1], by simp [lodB, letB, h1], by simp [idB, lodB, letB, h1]⟩

set_option maxHeartbeats 400000 in
theorem class_any (n : Int) (w : World) : Calls Tryd.prog 62 #[.int .u8 n] w fun e w' => e = .returned (.int .i64 (cls n)) ∧ w' = w := by
  go_enter Tryd.func62, Tryd.ntmps62
  go_wp2
  all_goals go_ret
  all_goals refine ⟨ret_int ?_, rfl⟩
  all_goals (simp_all [cls, bigB, smallB, digB]; try omega)

set_option maxHeartbeats 1000000 in
theorem rfield_any (s : ByteArray) (w : World) (hs : s.size ≤ maxLen) :
    Calls Tryd.prog 35 #[.string s] w fun e w' => e = .returned (.bool (fieldB s.data.toList)) ∧ w' = w := by
  unfold maxLen at hs
  have HE := hid (spell_empty smallB lodB s)
  have HG := hid (spell_long smallB lodB s)
  have HF := hid (spell_first smallB lodB s)
  have HA := hid (spell_at smallB lodB s)
  have HT := hid (spell_true smallB lodB s)
  have HB : Hid (fieldB s.data.toList = spell smallB lodB s.data.toList) := rfl
  go_enter Tryd.func35, Tryd.ntmps35
  go_wp2
  go_loop [3] (fun i => ∃ k : Nat, k ≤ s.size ∧ i = .int .i64 k ∧ (∀ j, j < k → (hj : j < s.size) → (j = 0 → smallB (s[j].toNat : Int) = true) ∧ (1 ≤ j → lodB (s[j].toNat : Int) = true))) (fun i => s.size - (intOf i).toNat)
  case atStart => exact ⟨0, by omega, rfl, fun j h => by omega⟩
  case round =>
    obtain ⟨k, hk, rfl, hall⟩ := hrel
    have HL := hid hall
    clear hall
    by_cases hlt : k < s.size
    · rcases Nat.eq_zero_or_pos k with h0 | h0
      · have HZ := hid h0
        have hz : ((k : Int) == 0) = true := by rw [h0]; rfl
        clear h0
        rcases cls_cases (s[k].toNat : Int) with h | h | h | h | h
        all_goals
          have HC := hid h
          clear h
          go_wp2_with (go_at_call 62; refine (class_any _ _).mono ?_; rintro e w' ⟨rfl, rfl⟩; rw [HC.out.1])
          first
          | (go_ret; exact ⟨ret_bool (by rw [HB.out]; have hz' := HZ.out; subst hz'; exact (HF.out hlt (by first | exact HC.out.2.1 | exact HC.out.2.2.1 | exact HC.out.2.2.2.2.1 | exact HC.out.2.2.2.2.2)).symm), rfl⟩)
          | (go_round
             case rel =>
               refine ⟨k + 1, by omega, by go_num, fun j h1 hj => ?_⟩
               have hz' := HZ.out
               have hj0 : j = k := by omega
               subst hj0
               exact ⟨fun _ => (by first | exact HC.out.2.1 | exact HC.out.2.2.1 | exact HC.out.2.2.2.2.1 | exact HC.out.2.2.2.2.2), fun _ => by omega⟩
             case measure => simp [intOf]; omega)
      · have HZ := hid h0
        have hz : ((k : Int) == 0) = false := by rw [beq_eq_false_iff_ne]; omega
        clear h0
        rcases cls_cases (s[k].toNat : Int) with h | h | h | h | h
        all_goals
          have HC := hid h
          clear h
          go_wp2_with (go_at_call 62; refine (class_any _ _).mono ?_; rintro e w' ⟨rfl, rfl⟩; rw [HC.out.1])
          first
          | (go_ret; exact ⟨ret_bool (by rw [HB.out]; exact (HA.out k HZ.out hlt (by first | exact HC.out.2.2.2.1 | exact HC.out.2.2.2.2.1 | exact HC.out.2.2.2.2.2)).symm), rfl⟩)
          | (go_round
             case rel =>
               refine ⟨k + 1, by omega, by go_num, fun j h1 hj => ?_⟩
               by_cases hjk : j = k
               · subst hjk
                 exact ⟨fun e => by have := HZ.out; omega, fun _ => (by first | exact HC.out.2.2.2.1 | exact HC.out.2.2.2.2.1 | exact HC.out.2.2.2.2.2)⟩
               · exact HL.out j (by omega) hj
             case measure => simp [intOf]; omega)
    · have hks : k = s.size := by omega
      rcases Nat.eq_zero_or_pos s.size with hz | hz
      · have hn : ¬ (0 : Int) < (s.size : Int) := by omega
        have HZ := hid hz
        clear hz hks
        go_wp2_with fail
        go_ret
        exact ⟨ret_bool (by rw [HB.out]; exact (HE.out HZ.out).symm), rfl⟩
      · have hn : (0 : Int) < (s.size : Int) := by omega
        by_cases hm : s.size ≤ 32
        · have hm' : (s.size : Int) ≤ 32 := by omega
          have HK := hid hks
          clear hks
          go_wp2_with fail
          go_ret
          refine ⟨ret_bool (by rw [HB.out]; exact (HT.out hz hm ((HL.out 0 (by have := HK.out; omega) hz).1 rfl) (fun j h1 hj => (HL.out j (by have := HK.out; omega) hj).2 h1)).symm), rfl⟩
        · have hm' : ¬ (s.size : Int) ≤ 32 := by omega
          clear hks
          go_wp2_with fail
          go_ret
          exact ⟨ret_bool (by rw [HB.out]; exact (HG.out (by omega)).symm), rfl⟩

end Go.Proofs.YtmjchokacmbkoaaDoor

/-
  The contract of the reference's May.
-/
namespace Go.Proofs.YtmjchokacmbkoaaDoor
open Go.RowKit

theorem step_of {fs : List Fld} {i : Nat} {f : Fld} (h : fs.getD i default = f) (h1 : fieldB f.1.data.toList = true) (h2 : 0 < f.2.length) (h3 : f.2.length ≤ 8) (h4 : ∀ t ∈ f.2, t.size ≤ 128) (h5 : i = 0 ∨ ltN (fs.getD (i - 1) default).1 f.1 = true) : stepOk fs i = true := by
  unfold stepOk fitsB
  rw [h, h1, decide_eq_true h3]
  have e1 : f.2.isEmpty = false := by
    cases hf : f.2 with
    | nil => rw [hf] at h2; simp at h2
    | cons _ _ => rfl
  have e2 : f.2.any longB = false := by
    rw [List.any_eq_false]
    intro t ht
    have := h4 t ht
    unfold longB
    simpa using this
  rw [e1, e2]
  rcases h5 with h5 | h5
  · rw [decide_eq_true h5]; rfl
  · rw [h5]; simp

theorem step_not {fs : List Fld} {i : Nat} {f : Fld} (h : fs.getD i default = f) (hn : fieldB f.1.data.toList = false ∨ f.2.length = 0 ∨ 8 < f.2.length ∨ (∃ t ∈ f.2, 128 < t.size) ∨ (i ≠ 0 ∧ ltN (fs.getD (i - 1) default).1 f.1 = false)) : stepOk fs i = false := by
  unfold stepOk fitsB
  rw [h]
  rcases hn with hn | hn | hn | ⟨t, ht, hn⟩ | ⟨hn, hm⟩
  · rw [hn]; rfl
  · rw [List.length_eq_zero_iff] at hn
    rw [hn]; simp
  · rw [decide_eq_false (by omega)]; simp
  · have : f.2.any longB = true := by
      rw [List.any_eq_true]
      exact ⟨t, ht, by unfold longB; simpa using hn⟩
    rw [this]; simp
  · rw [decide_eq_false hn, hm]; simp

set_option maxHeartbeats 1000000 in
set_option maxRecDepth 100000 in
theorem rmay_any (v : Value) (d : List Fx) (w : World) (hv : IsXs w v d) (hf : FitX d) : Calls Tryd.prog 14 #[v] w fun e w' => e = .returned (.bool (mayB (d.map Fx.fld))) ∧ Grown w w' := by
  obtain ⟨p, cap, rfl, hd, ht⟩ := hv
  have HT := hid ht
  have HF := hid hf.2
  have hl := hf.1
  unfold maxLen at hl
  have HD := hid hd
  clear ht hf hd
  obtain ⟨r, hr⟩ : ∃ r, mayB (d.map Fx.fld) = r := ⟨_, rfl⟩
  rw [hr]
  have HR := hid hr
  clear hr
  go_enter Tryd.func14, Tryd.ntmps14
  go_wp2_with fail
  go_loopg [3] d.length (fun g vi wr => ∃ i : Nat, vi = .int .i64 i ∧ i ≤ d.length ∧ i ≤ 16 ∧ d.length - i ≤ g ∧ Grown w wr ∧ Hid (∀ j, j < i → stepOk (d.map Fx.fld) j = true))
  case atStart => exact ⟨0, rfl, by omega, by omega, by omega, Grown.refl _, fun j h => by omega⟩
  case round =>
    obtain ⟨i, rfl, hi, hi16, hg, hb, HJ⟩ := hrel
    by_cases hlt : i < d.length
    · have hltz : (i : Int) < (d.length : Int) := by omega
      have hiz : (0 : Int) ≤ i := by omega
      obtain ⟨b, off, rfl, hxs⟩ : ∃ b off, p = some ⟨b, off, none⟩ ∧ XsAt w b off d := by
        rcases HD.out with h | h
        · subst h; simp at hlt
        · exact h
      have hxr := hxs.kept hb.below
      obtain ⟨c0, c1⟩ := hxr i hlt
      have hxi : (d[i]).at wr := (HT.out _ (List.getElem_mem hlt)).kept hb.below
      have hfi := HF.out _ (List.getElem_mem hlt)
      have hsx := flds_at hlt
      obtain ⟨x, hx⟩ : ∃ x, d[i] = x := ⟨_, rfl⟩
      rw [hx] at c0 c1 hxi hfi hsx
      have HXR := hid hxr
      have HXI := hid hxi
      have hns : x.name.size ≤ maxLen := hfi.1
      have htl : x.txt.length ≤ maxLen := hfi.2.1
      unfold maxLen at htl
      have HNS := hid hns
      have HFI := hid hfi
      have HSX := hid hsx
      clear hxr hxs hxi hfi hx hsx hns
      unfold Fx.sl at c1
      have mixed := Tryd.mixed
      have HFX : Hid (∀ W, Calls Tryd.prog 35 #[.string x.name] W fun e w' => e = .returned (.bool (fieldB x.name.data.toList)) ∧ w' = W) := fun W => rfield_any x.name W HNS.out
      by_cases h16 : i = 16
      · subst h16
        have H0 : Hid (r = false) := HR.out.symm.trans (may_long (by rw [List.length_map]; omega))
        go_wp2_with fail
        go_quiet (fail)
        go_wp2_with fail
        go_ret
        exact ⟨ret_bool H0.out.symm, (hb.alloc _).drewN _⟩
      have h16z : decide ((16 : Int) ≤ (i : Int)) = false := decide_eq_false (by omega)
      cases hfx : fieldB x.name.data.toList with
      | false =>
        rw [hfx] at HFX
        have H0 : Hid (r = false) := HR.out.symm.trans (may_no (i := i) (by rw [List.length_map]; exact hlt) (step_not HSX.out (Or.inl hfx)))
        go_wp2_with fail
        refine wp_region_quiet_lit mixed (by kernel_rfl) ?_
        repeat (go_big_quiet_step (first | (go_at_call 35; refine Calls.quiet_of_same (HFX.out _))))
        refine wpQuiet_nil ?_
        intro _ hw'
        obtain ⟨nq, hw''⟩ := hw'
        subst hw''
        go_wp2_with fail
        go_ret
        exact ⟨ret_bool H0.out.symm, (hb.alloc _).drewN _⟩
      | true =>
        rw [hfx] at HFX
        by_cases h0 : i = 0
        · have h0z : decide ((0 : Int) < (i : Int)) = false := decide_eq_false (by omega)
          have h0y : decide (0 < i) = false := decide_eq_false (by omega)
          have H00 := hid h0
          clear h0
          by_cases ht0 : x.txt.length = 0
          · have ht0z : (x.txt.length : Int) = 0 := by omega
            have H0 : Hid (r = false) := HR.out.symm.trans (may_no (i := i) (by rw [List.length_map]; exact hlt) (step_not HSX.out (Or.inr (Or.inl ht0))))
            go_wp2_with fail
            refine wp_region_quiet_lit mixed (by kernel_rfl) ?_
            repeat (go_big_quiet_step (first | (go_at_call 35; refine Calls.quiet_of_same (HFX.out _))))
            refine wpQuiet_nil ?_
            intro _ hw'
            obtain ⟨nq, hw''⟩ := hw'
            subst hw''
            go_wp2_with fail
            go_ret
            exact ⟨ret_bool H0.out.symm, (hb.alloc _).drewN _⟩
          have ht0z : ¬ (x.txt.length : Int) = 0 := by omega
          have ht0d : ((x.txt.length : Int) == 0) = false := beq_eq_false_iff_ne.2 ht0z
          by_cases ht8 : 8 < x.txt.length
          · have ht8z : (8 : Int) < (x.txt.length : Int) := by omega
            have H0 : Hid (r = false) := HR.out.symm.trans (may_no (i := i) (by rw [List.length_map]; exact hlt) (step_not HSX.out (Or.inr (Or.inr (Or.inl ht8)))))
            go_wp2_with fail
            refine wp_region_quiet_lit mixed (by kernel_rfl) ?_
            repeat (go_big_quiet_step (first | (go_at_call 35; refine Calls.quiet_of_same (HFX.out _))))
            refine wpQuiet_nil ?_
            intro _ hw'
            obtain ⟨nq, hw''⟩ := hw'
            subst hw''
            go_wp2_with fail
            go_ret
            exact ⟨ret_bool H0.out.symm, (hb.alloc _).drewN _⟩
          have ht8z : decide ((8 : Int) < (x.txt.length : Int)) = false := decide_eq_false (by omega)
          have HST : Hid ((∀ t ∈ x.txt, t.size ≤ 128) → stepOk (d.map Fx.fld) (i) = true) := fun h => step_of HSX.out hfx (by show 0 < x.txt.length; omega) (by show x.txt.length ≤ 8; omega) h (Or.inl H00.out)
          obtain ⟨bt, ot, hpt, hct0⟩ : ∃ bt ot, x.p = some ⟨bt, ot, none⟩ ∧ ∀ l, (h : l < x.txt.length) → wr.cell? ⟨bt, ot + l, none⟩ = some (.string x.txt[l]) := by
            rcases HXI.out with h | h
            · exact absurd (by rw [h]; rfl) ht0
            · exact h
          have HCT0 := hid hct0
          rw [hpt] at c1
          clear hpt hct0
          go_wp2_with fail
          refine wp_region_quiet_lit mixed (by kernel_rfl) ?_
          repeat (go_big_quiet_step (first | (go_at_call 35; refine Calls.quiet_of_same (HFX.out _))))
          refine wpQuiet_nil ?_
          intro _ hw'
          obtain ⟨nq, hw''⟩ := hw'
          subst hw''
          go_wp2_with fail
          obtain ⟨W2, hW2⟩ : ∃ W2, (wr.alloc (.cells #[.string x.name, .slice (some ⟨bt, ot, none⟩) x.txt.length x.cap] 45)).drewN nq = W2 := ⟨_, rfl⟩
          have hgW : Grown wr W2 := by rw [← hW2]; exact ((Grown.refl wr).alloc _).drewN _
          have q1 : W2.cell? ⟨wr.heap.size, 1, none⟩ = some (.slice (some ⟨bt, ot, none⟩) x.txt.length x.cap) := by rw [← hW2]; exact (x_new wr ⟨x.name, some ⟨bt, ot, none⟩, x.cap, x.txt⟩ (wr.alloc _) (Below.refl _ _)).2
          have hat : ∀ l, (h : l < x.txt.length) → W2.cell? ⟨bt, ot + l, none⟩ = some (.string x.txt[l]) := fun l h => (hgW.below.cell (p := ⟨bt, ot + l, none⟩) (cell_block (HCT0.out l h))).trans (HCT0.out l h)
          have HGW := hid hgW
          have HAT := hid hat
          rw [hW2]
          clear hgW hat hW2
          go_loopg [5] x.txt.length (fun g vj W => ∃ j : Nat, vj = .int .i64 j ∧ j ≤ x.txt.length ∧ x.txt.length - j ≤ g ∧ W = W2 ∧ Hid (∀ l (h : l < x.txt.length), l < j → (x.txt[l]).size ≤ 128))
          case atStart => exact ⟨0, rfl, by omega, by omega, rfl, fun l _ h => by omega⟩
          case round =>
            obtain ⟨j, rfl, hj, hgj, rfl, HL⟩ := hrel
            by_cases hjl : j < x.txt.length
            · have hjz : (j : Int) < (x.txt.length : Int) := by omega
              have hj0 : (0 : Int) ≤ (j : Int) := by omega
              have ctj := HAT.out j hjl
              obtain ⟨t, htt⟩ : ∃ t, x.txt[j] = t := ⟨_, rfl⟩
              have HTT := hid htt
              rw [htt] at ctj
              clear htt
              by_cases hts : 128 < t.size
              · have htsz : (128 : Int) < (t.size : Int) := by omega
                have H0 : Hid (r = false) := HR.out.symm.trans (may_no (i := i) (by rw [List.length_map]; exact hlt) (step_not HSX.out (Or.inr (Or.inr (Or.inr (Or.inl ⟨t, by rw [← HTT.out]; exact List.getElem_mem hjl, hts⟩))))))
                go_wp2_with fail
                go_ret
                exact ⟨ret_bool H0.out.symm, hb.trans HGW.out⟩
              · have htsz : ¬ (128 : Int) < (t.size : Int) := by omega
                go_wp2_with fail
                go_roundg (x.txt.length - (j + 1))
                case measure => omega
                refine ⟨j + 1, by go_num, by omega, by omega, rfl, fun l hl hlj => ?_⟩
                by_cases e : l = j
                · subst e; rw [HTT.out]; omega
                · exact HL.out l hl (by omega)
            · have hjz : ¬ (j : Int) < (x.txt.length : Int) := by omega
              have H1 := hid (HST.out fun t ht => by
                obtain ⟨l, hl, rfl⟩ := List.mem_iff_getElem.1 ht
                exact HL.out l hl (by omega))
              go_wp2_with fail
              go_roundg (d.length - (i + 1))
              case measure => omega
              refine ⟨i + 1, by go_num, by omega, by omega, by omega, hb.trans HGW.out, fun l hl => ?_⟩
              by_cases e : l = i
              · subst e; exact H1.out
              · exact HJ.out l (by omega)
        · obtain ⟨k, rfl⟩ : ∃ k, i = k + 1 := ⟨i - 1, by omega⟩
          obtain ⟨e0, _⟩ := HXR.out k (by omega)
          have hsy := flds_at (d := d) (i := k) (by omega)
          obtain ⟨y, hy⟩ : ∃ y, d[k] = y := ⟨_, rfl⟩
          rw [hy] at e0 hsy
          have HSY := hid hsy
          clear hy hsy
          have k1 : (0 : Int) < (k : Int) + 1 := by omega
          have hltk : (k : Int) + 1 < (d.length : Int) := by omega
          have h16y : decide ((16 : Int) ≤ (k : Int) + 1) = false := decide_eq_false (by omega)
          have k2 : (0 : Int) ≤ (k : Int) := by omega
          have k3 : (k : Int) < (d.length : Int) := by omega
          have e1 : ∀ o, (wr.alloc o).cell? ⟨b, off + k * 2, none⟩ = some (.string y.name) := fun o => by
            rw [← e0]; exact ((Below.refl wr.heap.size wr).alloc (Nat.le_refl _) _).cell (p := ⟨b, off + k * 2, none⟩) (cell_block e0)
          cases hlt2 : Op.bytesLess y.name.toList x.name.toList with
          | false =>
            have H0 : Hid (r = false) := HR.out.symm.trans (may_no (i := k + 1) (by rw [List.length_map]; exact hlt) (step_not HSX.out (Or.inr (Or.inr (Or.inr (Or.inr ⟨by omega, by rw [Nat.add_sub_cancel, HSY.out]; exact hlt2⟩))))))
            go_wp2_with fail
            refine wp_region_quiet_lit mixed (by kernel_rfl) ?_
            repeat (go_big_quiet_step (first | (go_at_call 35; refine Calls.quiet_of_same (HFX.out _))))
            refine wpQuiet_nil ?_
            intro _ hw'
            obtain ⟨nq, hw''⟩ := hw'
            subst hw''
            go_wp2_with fail
            go_ret
            exact ⟨ret_bool H0.out.symm, (hb.alloc _).drewN _⟩
          | true =>
            by_cases ht0 : x.txt.length = 0
            · have ht0z : (x.txt.length : Int) = 0 := by omega
              have H0 : Hid (r = false) := HR.out.symm.trans (may_no (i := k + 1) (by rw [List.length_map]; exact hlt) (step_not HSX.out (Or.inr (Or.inl ht0))))
              go_wp2_with fail
              refine wp_region_quiet_lit mixed (by kernel_rfl) ?_
              repeat (go_big_quiet_step (first | (go_at_call 35; refine Calls.quiet_of_same (HFX.out _))))
              refine wpQuiet_nil ?_
              intro _ hw'
              obtain ⟨nq, hw''⟩ := hw'
              subst hw''
              go_wp2_with fail
              go_ret
              exact ⟨ret_bool H0.out.symm, (hb.alloc _).drewN _⟩
            have ht0z : ¬ (x.txt.length : Int) = 0 := by omega
            have ht0d : ((x.txt.length : Int) == 0) = false := beq_eq_false_iff_ne.2 ht0z
            by_cases ht8 : 8 < x.txt.length
            · have ht8z : (8 : Int) < (x.txt.length : Int) := by omega
              have H0 : Hid (r = false) := HR.out.symm.trans (may_no (i := k + 1) (by rw [List.length_map]; exact hlt) (step_not HSX.out (Or.inr (Or.inr (Or.inl ht8)))))
              go_wp2_with fail
              refine wp_region_quiet_lit mixed (by kernel_rfl) ?_
              repeat (go_big_quiet_step (first | (go_at_call 35; refine Calls.quiet_of_same (HFX.out _))))
              refine wpQuiet_nil ?_
              intro _ hw'
              obtain ⟨nq, hw''⟩ := hw'
              subst hw''
              go_wp2_with fail
              go_ret
              exact ⟨ret_bool H0.out.symm, (hb.alloc _).drewN _⟩
            have ht8z : decide ((8 : Int) < (x.txt.length : Int)) = false := decide_eq_false (by omega)
            have HST : Hid ((∀ t ∈ x.txt, t.size ≤ 128) → stepOk (d.map Fx.fld) (k + 1) = true) := fun h => step_of HSX.out hfx (by show 0 < x.txt.length; omega) (by show x.txt.length ≤ 8; omega) h (Or.inr (by rw [Nat.add_sub_cancel, HSY.out]; exact hlt2))
            obtain ⟨bt, ot, hpt, hct0⟩ : ∃ bt ot, x.p = some ⟨bt, ot, none⟩ ∧ ∀ l, (h : l < x.txt.length) → wr.cell? ⟨bt, ot + l, none⟩ = some (.string x.txt[l]) := by
              rcases HXI.out with h | h
              · exact absurd (by rw [h]; rfl) ht0
              · exact h
            have HCT0 := hid hct0
            rw [hpt] at c1
            clear hpt hct0
            go_wp2_with fail
            refine wp_region_quiet_lit mixed (by kernel_rfl) ?_
            repeat (go_big_quiet_step (first | (go_at_call 35; refine Calls.quiet_of_same (HFX.out _))))
            refine wpQuiet_nil ?_
            intro _ hw'
            obtain ⟨nq, hw''⟩ := hw'
            subst hw''
            go_wp2_with fail
            obtain ⟨W2, hW2⟩ : ∃ W2, (wr.alloc (.cells #[.string x.name, .slice (some ⟨bt, ot, none⟩) x.txt.length x.cap] 45)).drewN nq = W2 := ⟨_, rfl⟩
            have hgW : Grown wr W2 := by rw [← hW2]; exact ((Grown.refl wr).alloc _).drewN _
            have q1 : W2.cell? ⟨wr.heap.size, 1, none⟩ = some (.slice (some ⟨bt, ot, none⟩) x.txt.length x.cap) := by rw [← hW2]; exact (x_new wr ⟨x.name, some ⟨bt, ot, none⟩, x.cap, x.txt⟩ (wr.alloc _) (Below.refl _ _)).2
            have hat : ∀ l, (h : l < x.txt.length) → W2.cell? ⟨bt, ot + l, none⟩ = some (.string x.txt[l]) := fun l h => (hgW.below.cell (p := ⟨bt, ot + l, none⟩) (cell_block (HCT0.out l h))).trans (HCT0.out l h)
            have HGW := hid hgW
            have HAT := hid hat
            rw [hW2]
            clear hgW hat hW2
            go_loopg [5] x.txt.length (fun g vj W => ∃ j : Nat, vj = .int .i64 j ∧ j ≤ x.txt.length ∧ x.txt.length - j ≤ g ∧ W = W2 ∧ Hid (∀ l (h : l < x.txt.length), l < j → (x.txt[l]).size ≤ 128))
            case atStart => exact ⟨0, rfl, by omega, by omega, rfl, fun l _ h => by omega⟩
            case round =>
              obtain ⟨j, rfl, hj, hgj, rfl, HL⟩ := hrel
              by_cases hjl : j < x.txt.length
              · have hjz : (j : Int) < (x.txt.length : Int) := by omega
                have hj0 : (0 : Int) ≤ (j : Int) := by omega
                have ctj := HAT.out j hjl
                obtain ⟨t, htt⟩ : ∃ t, x.txt[j] = t := ⟨_, rfl⟩
                have HTT := hid htt
                rw [htt] at ctj
                clear htt
                by_cases hts : 128 < t.size
                · have htsz : (128 : Int) < (t.size : Int) := by omega
                  have H0 : Hid (r = false) := HR.out.symm.trans (may_no (i := k + 1) (by rw [List.length_map]; exact hlt) (step_not HSX.out (Or.inr (Or.inr (Or.inr (Or.inl ⟨t, by rw [← HTT.out]; exact List.getElem_mem hjl, hts⟩))))))
                  go_wp2_with fail
                  go_ret
                  exact ⟨ret_bool H0.out.symm, hb.trans HGW.out⟩
                · have htsz : ¬ (128 : Int) < (t.size : Int) := by omega
                  go_wp2_with fail
                  go_roundg (x.txt.length - (j + 1))
                  case measure => omega
                  refine ⟨j + 1, by go_num, by omega, by omega, rfl, fun l hl hlj => ?_⟩
                  by_cases e : l = j
                  · subst e; rw [HTT.out]; omega
                  · exact HL.out l hl (by omega)
              · have hjz : ¬ (j : Int) < (x.txt.length : Int) := by omega
                have H1 := hid (HST.out fun t ht => by
                  obtain ⟨l, hl, rfl⟩ := List.mem_iff_getElem.1 ht
                  exact HL.out l hl (by omega))
                go_wp2_with fail
                go_roundg (d.length - (k + 1 + 1))
                case measure => omega
                refine ⟨k + 1 + 1, by go_num, by omega, by omega, by omega, hb.trans HGW.out, fun l hl => ?_⟩
                by_cases e : l = k + 1
                · subst e; exact H1.out
                · exact HJ.out l (by omega)
    · have hltz : ¬ (i : Int) < (d.length : Int) := by omega
      have H0 : Hid (r = true) := HR.out.symm.trans (may_yes (by rw [List.length_map]; omega) (fun j hj => HJ.out j (by rw [List.length_map] at hj; omega)))
      go_wp2_with fail
      go_ret
      exact ⟨ret_bool H0.out.symm, hb⟩

end Go.Proofs.YtmjchokacmbkoaaDoor

/-
  The contracts of the reference's put and Encode.
-/
namespace Go.Proofs.YtmjchokacmbkoaaDoor
open Go.RowKit

theorem new_byte (w : World) (c : Int) : ∀ j u, ([.int .u8 c] : List Value)[j]? = some u → (w.alloc (.cells #[.int .u8 c] 5)).cell? ((⟨w.heap.size, 0, none⟩ : Addr).add j) = some u := by
  intro j u hj
  match j, hj with
  | 0, hj => simp at hj; subst hj; simp [Addr.add]

theorem one_byte (c : Int) : ∀ u ∈ ([.int .u8 c] : List Value), u.oneCell' = true := by intro u hu; simp at hu; subst hu; rfl

theorem ownB_put {n0 : Nat} {w : World} {v : Value} {bs : List UInt8} {c : UInt8} {k : Int} {n : Nat} (h : w.ownsRow n0 5 1 v n (Lib.byteCells bs ++ [.int .u8 k])) (hn : n = bs.length + 1) (hk : (c.toNat : Int) = k) : OwnB n0 w v (bs ++ [c]) := by
  subst hn
  unfold OwnB
  have e2 : Lib.byteCells (bs ++ [c]) = Lib.byteCells bs ++ [.int .u8 k] := by simp [Lib.byteCells, hk]
  rw [e2, List.length_append]
  exact h

set_option maxHeartbeats 2000000 in
set_option maxRecDepth 100000 in
theorem rput_any (n0 : Nat) (v : Value) (bs : List UInt8) (t : ByteArray) (w : World) (hown : OwnB n0 w v bs) (hn : n0 ≤ w.heap.size) (hs : bs.length + 1 + t.size ≤ 140737488355328) :
    Calls Tryd.prog 38 #[v, .string t] w fun e w' => ∃ v', e = .returned v' ∧ OwnB n0 w' v' (bs ++ encT t) ∧ Below n0 w w' := by
  obtain ⟨i0, hi, hz0, hz1, hz2⟩ := info_parts Tryd.infoByte
  have HO := hid hown
  unfold OwnB at hown
  go_enter Tryd.func38, Tryd.ntmps38
  go_wp2_with (at_builtin; refine wpList_append_own _ rfl _ _ 29 rfl n0 5 i0 (.int .u8 0) 1 1 Tryd.underlying29 hi hz0 hz1 hz2 rfl (by decide) _ _ _ rfl (hown.alloc _) ⟨w.heap.size, 0, none⟩ 1 1 [.int .u8 ((t.size : Int) % 256)] rfl rfl (new_byte _ _) (one_byte _) (by unfold maxLen; omega) (by omega) (by simp; omega) ?_)
  intro v1 w1 hown1 hg1 _
  have hb1 : Below n0 w w1 := ((Below.refl n0 w).alloc hn _).grown hg1 (by simp; omega) (fun k hk => (hown.lt k hk).1)
  have hob1 : OwnB n0 w1 v1 (bs ++ [UInt8.ofNat t.size]) := ownB_put hown1 rfl (by simp)
  have HB1 := hid hb1
  have HOB1 := hid hob1
  have HI := hid hi
  clear hown1 hg1 hb1 hob1 hown hi
  go_wp2_with fail
  go_loopg [0, 5] t.size (fun g vb vi wr => ∃ i : Nat, vi = .int .i64 i ∧ i ≤ t.size ∧ t.size - i ≤ g ∧ Below n0 w wr ∧ OwnB n0 wr vb (bs ++ [UInt8.ofNat t.size] ++ t.data.toList.take i))
  case atStart => exact ⟨0, rfl, by omega, by omega, HB1.out, by simpa using HOB1.out⟩
  case round =>
    obtain ⟨i, rfl, hi, hgk, hb, hob⟩ := hrel
    by_cases hlt : i < t.size
    · have hltz : (i : Int) < (t.size : Int) := by omega
      have hiz : (0 : Int) ≤ i := by omega
      have hsz := hb.size
      have htk : t.data.toList.take (i + 1) = t.data.toList.take i ++ [t[i]] := by
        rw [List.take_succ_eq_append_getElem (by simpa using hlt)]
        rfl
      obtain ⟨acc, hacc⟩ : ∃ acc, bs ++ [UInt8.ofNat t.size] ++ t.data.toList.take i = acc := ⟨_, rfl⟩
      have hal : acc.length = bs.length + 1 + i := by
        rw [← hacc, List.length_append, List.length_append, List.length_take]
        simp
        omega
      rw [hacc] at hob
      have HACC := hid hacc
      have HOB := hid hob
      have HB := hid hb
      have HTK := hid htk
      clear hacc hob hb htk
      go_wp2_with (at_builtin; refine wpList_append_own _ rfl _ _ 29 rfl n0 5 i0 (.int .u8 0) 1 1 Tryd.underlying29 HI.out hz0 hz1 hz2 rfl (by decide) _ _ _ rfl (World.ownsRow.alloc HOB.out _) ⟨wr.heap.size, 0, none⟩ 1 1 [.int .u8 (t[i].toNat : Int)] rfl rfl (new_byte _ _) (one_byte _) (by unfold maxLen; omega) (by omega) (by simp; omega) ?_)
      intro v3 w3 hown3 hg3 _
      have hob3 : OwnB n0 w3 v3 (acc ++ [t[i]]) := ownB_put hown3 (by omega) rfl
      have hb3 : Below n0 w w3 := (HB.out.alloc (by omega) _).grown hg3 (by simp; omega) (fun k hk => (World.ownsRow.lt HOB.out k hk).1)
      have HOB3 := hid hob3
      have HB3 := hid hb3
      clear hown3 hg3 hob3 hb3
      go_wp2_with fail
      go_roundg (t.size - (i + 1))
      case measure => omega
      refine ⟨i + 1, by go_num, by omega, by omega, HB3.out, ?_⟩
      rw [HTK.out, ← List.append_assoc, HACC.out]
      exact HOB3.out
    · have hltz : ¬ (i : Int) < (t.size : Int) := by omega
      have htk2 : t.data.toList.take i = t.data.toList := List.take_of_length_le (by simp; omega)
      rw [htk2] at hob
      have HOJ := hid hob
      clear hob htk2
      go_wp2_with fail
      go_ret
      refine ⟨_, rfl, ?_, hb⟩
      have e : bs ++ encT t = bs ++ [UInt8.ofNat t.size] ++ t.data.toList := by simp [encT]
      rw [e]
      exact HOJ.out

set_option maxHeartbeats 4000000 in
set_option maxRecDepth 100000 in
theorem rencode_no (v : Value) (d : List Fx) (w : World) (hv : IsXs w v d) (hf : FitX d) (hm : mayB (d.map Fx.fld) = false) :
    Calls Tryd.prog 16 #[v] w fun e w' => e = .returned (.tuple #[.slice none 0 0, .int .i64 3]) ∧ Grown w w' := by
  have HM := hid (rmay_any v d w hv hf)
  rw [hm] at HM
  clear hv
  go_enter Tryd.func16, Tryd.ntmps16
  go_wp2_with (first | (go_at_call 14; refine HM.out.mono ?_; rintro e w1 ⟨rfl, hg⟩))
  go_ret2
  exact ⟨rfl, hg⟩

set_option maxHeartbeats 4000000 in
set_option maxRecDepth 100000 in
theorem rencode_yes (v : Value) (d : List Fx) (w : World) (hv : IsXs w v d) (hf : FitX d) (hm : mayB (d.map Fx.fld) = true) :
    Calls Tryd.prog 16 #[v] w fun e w' => (∃ u, e = .returned (.tuple #[u, .int .i64 0]) ∧ OwnB w.heap.size w' u (encL (d.map Fx.fld))) ∧ Below w.heap.size w w' := by
  have HM := hid (rmay_any v d w hv hf)
  rw [hm] at HM
  obtain ⟨i0, hi, hz0, hz1, hz2⟩ := info_parts Tryd.infoByte
  obtain ⟨p, cap, rfl, hd, ht⟩ := hv
  have HT := hid ht
  have HF := hid hf.2
  have hl := hf.1
  unfold maxLen at hl
  have HD := hid hd
  have HI := hid hi
  clear hi
  have HMM := hid hm
  clear ht hf hd hm
  go_enter Tryd.func16, Tryd.ntmps16
  go_wp2_with (first | (go_at_call 14; refine HM.out.mono ?_; rintro e w1 ⟨rfl, hg⟩))
  go_loopg [4, 5] d.length (fun g vb vi wr => ∃ i : Nat, vi = .int .i64 i ∧ i ≤ d.length ∧ d.length - i ≤ g ∧ Below w.heap.size w wr ∧ OwnB w.heap.size wr vb (UInt8.ofNat d.length :: ((d.map Fx.fld).take i).flatMap encF))
  case atStart =>
    refine ⟨0, rfl, by omega, by omega, (hg.below).alloc hg.below.size _, ?_⟩
    have := World.ownsRow_lit (base := w.heap.size) (e := 5) (size := 1) w1 #[.int .u8 ((d.length : Int) % 256)] 1 hg.below.size (by decide) rfl
    unfold OwnB
    simpa [Lib.byteCells] using this
  case round =>
    obtain ⟨i, rfl, hi, hgk, hb, hob⟩ := hrel
    by_cases hlt : i < d.length
    · have hltz : (i : Int) < (d.length : Int) := by omega
      have hiz : (0 : Int) ≤ i := by omega
      obtain ⟨b, off, rfl, hxs⟩ : ∃ b off, p = some ⟨b, off, none⟩ ∧ XsAt w b off d := by
        rcases HD.out with h | h
        · subst h; simp at hlt
        · exact h
      obtain ⟨a0, a1⟩ := hxs i hlt
      obtain ⟨c0, c1⟩ := hxs.kept hb i hlt
      have hxi : (d[i]).at w := HT.out _ (List.getElem_mem hlt)
      have hfi : fitsB (d[i]).fld = true := may_fits HMM.out _ (List.mem_map.2 ⟨_, List.getElem_mem hlt, rfl⟩)
      have htk : ((d.map Fx.fld).take (i + 1)).flatMap encF = ((d.map Fx.fld).take i).flatMap encF ++ encF (d[i]).fld := by
        rw [List.take_succ_eq_append_getElem (by rw [List.length_map]; exact hlt), List.flatMap_append]
        simp
      obtain ⟨x, hx⟩ : ∃ x, d[i] = x := ⟨_, rfl⟩
      rw [hx] at a0 a1 c0 c1 hxi hfi htk
      obtain ⟨b2, off2, hp2, ht2⟩ : ∃ b off, x.p = some ⟨b, off, none⟩ ∧ ∀ i, (h : i < x.txt.length) → w.cell? ⟨b, off + i, none⟩ = some (.string x.txt[i]) := by
        rcases hxi with h | h
        · have := (fits_parts hfi).2.1
          simp only [Fx.fld] at this
          rw [h] at this; simp at this
        · exact h
      have HT2 := hid ht2
      have HFI := hid hfi
      have HTK := hid htk
      have hal := enc_ahead HMM.out i
      obtain ⟨acc, hacc⟩ : ∃ acc, UInt8.ofNat d.length :: ((d.map Fx.fld).take i).flatMap encF = acc := ⟨_, rfl⟩
      have hacl : acc.length ≤ 17057 := by rw [← hacc, List.length_cons]; omega
      rw [hacc] at hob
      obtain ⟨hn32, _, hn8, _⟩ := fits_parts hfi
      have HOB := hid hob
      have HACC := hid hacc
      have HB := hid hb
      have hsz := hb.size
      unfold Fx.sl at c1 a1
      rw [hp2] at c1 a1
      have FA : Hid (∀ W, Below w.heap.size w W → W.cell? ⟨b, off + i * 2 + 1, none⟩ = some (.slice (some ⟨b2, off2, none⟩) x.txt.length x.cap)) := fun W h => (h.cell (p := ⟨b, off + i * 2 + 1, none⟩) (cell_block a1)).trans a1
      clear hxs hxi hx htk hal hacc hob hfi ht2 a0 a1 hb
      clear hp2
      simp only [Fx.fld] at hn32 hn8
      go_wp2_with (first | (go_at_call 38; refine (rput_any w.heap.size _ acc _ _ HOB.out hsz (by omega)).mono ?_; rintro e w2 ⟨v2, rfl, hob2, hb2⟩; have hbw : Below w.heap.size w w2 := HB.out.trans hb2; have g1 := FA.out _ hbw; have hsz2 := hbw.size) | (at_builtin; refine wpList_append_own _ rfl _ _ 29 rfl w.heap.size 5 i0 (.int .u8 0) 1 1 Tryd.underlying29 HI.out hz0 hz1 hz2 rfl (by decide) _ _ _ rfl (World.ownsRow.alloc hob2 _) ⟨w2.heap.size, 0, none⟩ 1 1 [.int .u8 (x.txt.length : Int)] rfl rfl (new_byte _ _) (one_byte _) ?c3 ?c4 ?c5 ?_))
      case c3 => unfold maxLen; simp [encT_len]; omega
      case c4 => simp [encT_len]; omega
      case c5 => simp; omega
      intro v3 w3 hown3 hg3 _
      have hbw3 : Below w.heap.size w w3 := (hbw.alloc hbw.size _).grown hg3 (by simp; omega) (fun k hk => (World.ownsRow.lt hob2 k hk).1)
      have hob3 : OwnB w.heap.size w3 v3 (acc ++ encT x.name ++ [UInt8.ofNat x.txt.length]) := ownB_put hown3 (by simp) (by simp; omega)
      have HOB3 := hid hob3
      have HBW3 := hid hbw3
      clear hown3 hg3 hob2 hbw hob3 hbw3 hb2 g1 c0 c1 hsz2
      obtain ⟨ac2, hac2⟩ : ∃ ac2, acc ++ encT x.name ++ [UInt8.ofNat x.txt.length] = ac2 := ⟨_, rfl⟩
      have hac2l : ac2.length ≤ 17100 := by rw [← hac2]; simp [encT_len]; omega
      have HAC2 := hid hac2
      rw [hac2] at HOB3
      clear hac2
      go_wp2_with fail
      go_loopg [4, 6] x.txt.length (fun g vb vj wr2 => ∃ j : Nat, vj = .int .i64 j ∧ j ≤ x.txt.length ∧ x.txt.length - j ≤ g ∧ Below w.heap.size w wr2 ∧ OwnB w.heap.size wr2 vb (ac2 ++ (x.txt.take j).flatMap encT))
      case atStart => exact ⟨0, rfl, by omega, by omega, HBW3.out, by simpa using HOB3.out⟩
      case round =>
        obtain ⟨j, rfl, hj, hgj, hbj, hobj⟩ := hrel
        have g2 := FA.out _ hbj
        by_cases hlj : j < x.txt.length
        · have hljz : (j : Int) < (x.txt.length : Int) := by omega
          have hjz : (0 : Int) ≤ j := by omega
          have t0 : wr.cell? ⟨b2, off2 + j, none⟩ = some (.string x.txt[j]) := (hbj.cell (p := ⟨b2, off2 + j, none⟩) (cell_block (HT2.out j hlj))).trans (HT2.out j hlj)
          have hts : x.txt[j].size ≤ 128 := (fits_parts HFI.out).2.2.2.1 _ (List.getElem_mem hlj)
          have htl := fits_texts HFI.out j
          simp only [Fx.fld] at htl
          have hstep : (x.txt.take (j + 1)).flatMap encT = (x.txt.take j).flatMap encT ++ encT x.txt[j] := by
            rw [List.take_succ_eq_append_getElem hlj, List.flatMap_append]; simp
          obtain ⟨t, hte⟩ : ∃ t, x.txt[j] = t := ⟨_, rfl⟩
          rw [hte] at t0 hts hstep
          have HST := hid hstep
          have HOJ := hid hobj
          have HBJ := hid hbj
          have hszj := hbj.size
          clear hte hstep hobj hbj
          go_wp2_with (first | (go_at_call 38; refine (rput_any w.heap.size _ _ _ _ HOJ.out hszj (by rw [List.length_append]; omega)).mono ?_; rintro e w4 ⟨v4, rfl, hob4, hb4⟩))
          go_roundg (x.txt.length - (j + 1))
          case measure => omega
          refine ⟨j + 1, by go_num, by omega, by omega, HBJ.out.trans hb4, ?_⟩
          rw [HST.out, ← List.append_assoc]
          exact hob4
        · have hljz : ¬ (j : Int) < (x.txt.length : Int) := by omega
          have htk2 : x.txt.take j = x.txt := List.take_of_length_le (by omega)
          rw [htk2] at hobj
          have HOJ := hid hobj
          have HBJ := hid hbj
          clear hobj hbj htk2
          go_wp2_with fail
          go_roundg (d.length - (i + 1))
          case measure => omega
          refine ⟨i + 1, by go_num, by omega, by omega, HBJ.out, ?_⟩
          rw [HTK.out]
          have e3 : UInt8.ofNat d.length :: (((d.map Fx.fld).take i).flatMap encF ++ encF x.fld) = ac2 ++ x.txt.flatMap encT := by
            rw [← HAC2.out, ← HACC.out]
            simp [encF, Fx.fld]
          rw [e3]
          exact HOJ.out
    · have hltz : ¬ (i : Int) < (d.length : Int) := by omega
      have htk2 : (d.map Fx.fld).take i = d.map Fx.fld := List.take_of_length_le (by rw [List.length_map]; omega)
      rw [htk2] at hob
      have HOJ := hid hob
      clear hob htk2
      go_wp2_with fail
      go_ret2
      refine ⟨⟨_, rfl, ?_⟩, hb⟩
      unfold encL
      rw [List.length_map]
      exact HOJ.out

end Go.Proofs.YtmjchokacmbkoaaDoor

/-
  ValueBytes answers true.
-/
namespace Go.Proofs.YtmjchokacmbkoaaDoor
open Go.RowKit

theorem ownB_rest {n0 : Nat} {w : World} {u : Value} {l : List UInt8} (h : OwnB n0 w u l) : RestAt w.heap.size w u l := by
  rcases h.2 with ⟨rfl, h0⟩ | ⟨g', cap, cur, rfl, _⟩
  · obtain rfl := List.length_eq_zero_iff.1 h0
    exact ⟨none, 0, rfl, by simp, by unfold maxLen; omega, Or.inl rfl⟩
  · exact own_rest h

theorem ownB_slice {n0 : Nat} {w : World} {u : Value} {l : List UInt8} (h : OwnB n0 w u l) : ∃ p c, u = .slice p l.length c := by
  rcases h.2 with ⟨rfl, h0⟩ | ⟨g', cap, cur, rfl, _⟩
  · exact ⟨none, 0, by rw [h0]⟩
  · exact ⟨_, _, rfl⟩

set_option maxHeartbeats 2000000 in
set_option maxRecDepth 100000 in
theorem bytes_any (v : Value) (d : List Fx) (w : World) (hp : PlainAt w) (hv : IsXs w v d) (hf : FitX d) :
    Calls Tryd.prog 4 #[v] w fun e w' => e = .returned (.bool true) ∧ Below w.heap.size w w' := by
  have HP := hid hp
  have HV := hid hv
  have HF := hid hf
  clear hp hv hf
  cases hm : mayB (d.map Fx.fld) with
  | false =>
    have HM := hid hm
    have hz : sizeN (d.map Fx.fld) = 0 := by unfold sizeN; rw [hm]; rfl
    have HZ := hid hz
    clear hm hz
    go_enter Tryd.func4, Tryd.ntmps4
    go_wp2_with (first
      | (go_at_call 9; refine (fixed_any _ HP.out).mono ?_; rintro e w1 ⟨rfl, q1⟩)
      | (go_at_call 15; refine (encode_no v d w1 (HV.out.kept q1) HF.out HM.out).mono ?_; rintro e w2 ⟨rfl, q2⟩; have b2 : Below w.heap.size w w2 := bel_then q1 q1.size q2.below)
      | (go_at_call 16; refine (rencode_no v d w2 (HV.out.kept b2) HF.out HM.out).mono ?_; rintro e w3 ⟨rfl, q3⟩; have b3 : Below w.heap.size w w3 := bel_then b2 b2.size q3.below; have kc : ∀ W : World, (convert 29 9 (.slice none 0 0)).run Tryd.prog W = .ok (.string ⟨#[]⟩) W := fun W => conv_any (R := 0) ⟨none, 0, rfl, Nat.le_refl _, by unfold maxLen; omega, Or.inl rfl⟩)
      | (go_at_call 17; refine (size_any v d w3 (HV.out.kept b3) HF.out).mono ?_; rintro e w4 ⟨rfl, q4⟩; rw [HZ.out]))
    go_ret
    exact ⟨rfl, bel_then b3 b3.size q4⟩
  | true =>
    have HM := hid hm
    have hz : sizeN (d.map Fx.fld) = (encL (d.map Fx.fld)).length := by unfold sizeN; rw [hm]; rfl
    have HZ := hid hz
    clear hm hz
    obtain ⟨l, hl⟩ : ∃ l, encL (d.map Fx.fld) = l := ⟨_, rfl⟩
    have HL := hid hl
    clear hl
    go_enter Tryd.func4, Tryd.ntmps4
    go_wp2_with (first
      | (go_at_call 9; refine (fixed_any _ HP.out).mono ?_; rintro e w1 ⟨rfl, q1⟩)
      | (go_at_call 15; refine (encode_yes v d w1 (HV.out.kept q1) HF.out HM.out).mono ?_; rintro e w2 ⟨⟨u2, rfl, o2⟩, q2⟩; rw [HL.out] at o2; have b2 : Below w.heap.size w w2 := bel_then q1 q1.size q2)
      | (go_at_call 16; refine (rencode_yes v d w2 (HV.out.kept b2) HF.out HM.out).mono ?_; rintro e w3 ⟨⟨u3, rfl, o3⟩, q3⟩; rw [HL.out] at o3; have b3 : Below w.heap.size w w3 := bel_then b2 b2.size q3; have kc := conv_any (ownB_rest (o2.on q3)); have kd := conv_any (ownB_rest o3); obtain ⟨p3, c3, rfl⟩ := ownB_slice o3)
      | (go_at_call 17; refine (size_any v d w3 (HV.out.kept b3) HF.out).mono ?_; rintro e w4 ⟨rfl, q4⟩; rw [HZ.out, HL.out]))
    go_ret
    exact ⟨rfl, bel_then b3 b3.size q4⟩

end Go.Proofs.YtmjchokacmbkoaaDoor

/-
  What Decode answers, said as the reference reckons it; and that what was decoded is encoded as it was.
-/
namespace Go.Proofs.YtmjchokacmbkoaaDoor
open Go.RowKit

def textO : List UInt8 → Option (ByteArray × List UInt8)
  | [] => none
  | c :: r => if r.length < c.toNat then none else some (⟨(r.take c.toNat).toArray⟩, r.drop c.toNat)
def textsO : Nat → List UInt8 → Option (List ByteArray × List UInt8)
  | 0, l => some ([], l)
  | n + 1, l => match textO l with
    | none => none
    | some (t, r) => (textsO n r).map fun x => (t :: x.1, x.2)
def fieldL (l : List UInt8) : Option (Fld × List UInt8) :=
  match textO l with
  | none => none
  | some (_, []) => none
  | some (nm, c :: q) => if 8 < c.toNat then none else (textsO c.toNat q).map fun x => ((nm, x.1), x.2)
def fieldsL : Nat → List UInt8 → Option (List Fld × List UInt8)
  | 0, l => some ([], l)
  | n + 1, l => match fieldL l with
    | none => none
    | some (f, r) => (fieldsL n r).map fun x => (f :: x.1, x.2)
def rdecO : List UInt8 → Option (List Fld)
  | [] => none
  | c :: r => if 16 < c.toNat then none else
    match fieldsL c.toNat r with
    | some (fs, []) => if mayB fs = true then some fs else none
    | _ => none

theorem textO_cons (c : UInt8) (r : List UInt8) : textO (c :: r) = if r.length < c.toNat then none else some (⟨(r.take c.toNat).toArray⟩, r.drop c.toNat) := rfl
theorem rdecO_cons (c : UInt8) (r : List UInt8) : rdecO (c :: r) = if 16 < c.toNat then none else
    match fieldsL c.toNat r with
    | some (fs, []) => if mayB fs = true then some fs else none
    | _ => none := rfl

theorem takeS_short (n : Nat) (l : List UInt8) : (takeS n (l, true)).2.2 = true := by unfold takeS; split <;> rfl
theorem countS_short (l : List UInt8) : (countS (l, true)).2.2 = true := by
  unfold countS
  have := takeS_short 1 l
  split <;> rename_i h <;> rw [h] at this <;> exact this
theorem short_eq (s : Rst) (h : s.2 = true) : s = (s.1, true) := by obtain ⟨a, b⟩ := s; cases h; rfl
theorem textS_short (s : Rst) (h : s.2 = true) : (textS s).2.2 = true := by
  rw [short_eq s h]
  unfold textS
  have h1 := countS_short s.1
  have := takeS_short (countS (s.1, true)).1 (countS (s.1, true)).2.1
  rw [← short_eq _ h1] at this
  exact this
theorem textsS_short (n : Nat) (s : Rst) (h : s.2 = true) : (textsS n s).2.2 = true := by
  induction n generalizing s with
  | zero => exact h
  | succ n ih => rw [textsS]; exact ih _ (textS_short s h)
theorem fieldS_short (s : Rst) (h : s.2 = true) : (fieldS s).2.2 = true := by
  unfold fieldS
  have h1 := textS_short s h
  have h2 := countS_short (textS s).2.1
  rw [← short_eq _ h1] at h2
  exact textsS_short _ _ h2
theorem fieldsS_short (n : Nat) (s : Rst) (h : s.2 = true) : (fieldsS n s).2.2 = true := by
  induction n generalizing s with
  | zero => exact h
  | succ n ih => rw [fieldsS]; exact ih _ (fieldS_short s h)

theorem countS_cons (c : UInt8) (r : List UInt8) : countS (c :: r, false) = (c.toNat, (r, false)) := by
  unfold countS takeS
  simp
theorem countS_nil : countS ([], false) = (0, ([], true)) := by
  unfold countS takeS
  simp

theorem textS_O (l : List UInt8) : (textO l = none ∧ (textS (l, false)).2.2 = true) ∨ ∃ t r, textO l = some (t, r) ∧ textS (l, false) = (t, (r, false)) := by
  cases l with
  | nil =>
    left
    refine ⟨rfl, ?_⟩
    unfold textS
    rw [countS_nil]
    exact takeS_short _ _
  | cons c r =>
    unfold textS textO
    rw [countS_cons]
    simp only
    by_cases h : r.length < c.toNat
    · left
      rw [if_pos h]
      refine ⟨rfl, ?_⟩
      unfold takeS
      rw [if_pos h]
    · right
      rw [if_neg h]
      refine ⟨_, _, rfl, ?_⟩
      unfold takeS
      rw [if_neg h]

theorem textsS_O (n : Nat) (l : List UInt8) : (textsO n l = none ∧ (textsS n (l, false)).2.2 = true) ∨ ∃ ts r, textsO n l = some (ts, r) ∧ textsS n (l, false) = (ts, (r, false)) := by
  induction n generalizing l with
  | zero => exact Or.inr ⟨[], l, rfl, rfl⟩
  | succ n ih =>
    rw [textsO, textsS]
    rcases textS_O l with ⟨h1, h2⟩ | ⟨t, r, h1, h2⟩
    · left
      rw [h1]
      exact ⟨rfl, textsS_short _ _ h2⟩
    · rw [h1, h2]
      rcases ih r with ⟨h3, h4⟩ | ⟨ts, q, h3, h4⟩
      · left
        simp only [h3]
        exact ⟨rfl, h4⟩
      · right
        simp only [h3, h4]
        exact ⟨_, _, rfl, rfl⟩

theorem fieldS_L (l : List UInt8) : (fieldL l = none ∧ ((fieldS (l, false)).2.2 = true ∨ fitsB (fieldS (l, false)).1 = false)) ∨ ∃ f r, fieldL l = some (f, r) ∧ fieldS (l, false) = (f, (r, false)) := by
  unfold fieldL fieldS
  rcases textS_O l with ⟨h1, h2⟩ | ⟨t, r, h1, h2⟩
  · left
    rw [h1]
    refine ⟨rfl, Or.inl ?_⟩
    have h3 := countS_short (textS (l, false)).2.1
    rw [← short_eq _ h2] at h3
    exact textsS_short _ _ h3
  · rw [h1, h2]
    cases r with
    | nil =>
      left
      refine ⟨rfl, Or.inl ?_⟩
      simp only
      rw [countS_nil]
      exact textsS_short _ _ rfl
    | cons c q =>
      simp only
      rw [countS_cons]
      simp only
      by_cases h8 : 8 < c.toNat
      · left
        rw [if_pos h8]
        refine ⟨rfl, Or.inr ?_⟩
        unfold fitsB
        simp only
        rw [textsS_len, decide_eq_false (by omega)]
        simp
      · rw [if_neg h8]
        rcases textsS_O c.toNat q with ⟨h3, h4⟩ | ⟨ts, z, h3, h4⟩
        · left
          rw [h3]
          exact ⟨rfl, Or.inl h4⟩
        · right
          rw [h3, h4]
          exact ⟨_, _, rfl, rfl⟩

theorem fieldsS_L (n : Nat) (l : List UInt8) : (fieldsL n l = none ∧ ((fieldsS n (l, false)).2.2 = true ∨ ∃ f ∈ (fieldsS n (l, false)).1, fitsB f = false)) ∨ ∃ fs r, fieldsL n l = some (fs, r) ∧ fieldsS n (l, false) = (fs, (r, false)) := by
  induction n generalizing l with
  | zero => exact Or.inr ⟨[], l, rfl, rfl⟩
  | succ n ih =>
    rw [fieldsL, fieldsS]
    rcases fieldS_L l with ⟨h1, h2⟩ | ⟨f, r, h1, h2⟩
    · left
      rw [h1]
      refine ⟨rfl, ?_⟩
      rcases h2 with h2 | h2
      · exact Or.inl (fieldsS_short _ _ h2)
      · exact Or.inr ⟨_, List.mem_cons_self, h2⟩
    · rw [h1, h2]
      rcases ih r with ⟨h3, h4⟩ | ⟨fs, q, h3, h4⟩
      · left
        simp only [h3]
        refine ⟨rfl, ?_⟩
        rcases h4 with h4 | ⟨g, hg, h4⟩
        · exact Or.inl h4
        · exact Or.inr ⟨g, List.mem_cons_of_mem _ hg, h4⟩
      · right
        simp only [h3, h4]
        exact ⟨_, _, rfl, rfl⟩

theorem fieldsS_len (n : Nat) (s : Rst) : (fieldsS n s).1.length = n := by
  induction n generalizing s with
  | zero => rfl
  | succ n ih => rw [fieldsS, List.length_cons, ih]

theorem decO_no {l : List UInt8} (h : (valueS (l, false)).2.2 = true ∨ 0 < (valueS (l, false)).2.1.length ∨ mayB (valueS (l, false)).1 = false) : decodeO l = none := by
  unfold decodeO; rw [if_pos h]

theorem rdec_eq (l : List UInt8) : rdecO l = decodeO l := by
  cases l with
  | nil =>
    rw [decO_no]
    · rfl
    · left
      unfold valueS
      rw [countS_nil]
      exact fieldsS_short _ _ rfl
  | cons c r =>
    have hv : valueS (c :: r, false) = fieldsS c.toNat (r, false) := by unfold valueS; rw [countS_cons]
    rw [rdecO_cons]
    by_cases h16 : 16 < c.toNat
    · rw [if_pos h16, decO_no]
      right; right
      rw [hv]
      exact may_long (by rw [fieldsS_len]; exact h16)
    · rw [if_neg h16]
      rcases fieldsS_L c.toNat r with ⟨h1, h2⟩ | ⟨fs, q, h1, h2⟩
      · rw [h1, decO_no]
        rw [hv]
        rcases h2 with h2 | ⟨f, hf, h2⟩
        · exact Or.inl h2
        · right; right
          rw [Bool.eq_false_iff]
          intro hm
          have := may_fits hm f hf
          rw [h2] at this; cases this
      · rw [h1]
        cases q with
        | cons x q =>
          rw [decO_no]
          right; left
          rw [hv, h2]; simp
        | nil =>
          simp only
          unfold decodeO
          rw [hv, h2]
          simp only
          cases hm : mayB fs <;> simp

theorem textO_enc {l : List UInt8} {t : ByteArray} {r : List UInt8} (h : textO l = some (t, r)) : l = encT t ++ r := by
  cases l with
  | nil => cases h
  | cons c q =>
    rw [textO_cons] at h
    split at h
    · cases h
    · rename_i hl
      cases h
      unfold encT
      have e : (ByteArray.mk (q.take c.toNat).toArray).size = c.toNat := by
        show (q.take c.toNat).toArray.size = _
        simp; omega
      rw [e]
      simp
theorem textsO_enc (n : Nat) {l : List UInt8} {ts : List ByteArray} {r : List UInt8} (h : textsO n l = some (ts, r)) : l = ts.flatMap encT ++ r ∧ ts.length = n := by
  induction n generalizing l ts with
  | zero => cases h; exact ⟨rfl, rfl⟩
  | succ n ih =>
    rw [textsO] at h
    cases ht : textO l with
    | none => rw [ht] at h; cases h
    | some x =>
      obtain ⟨t, q⟩ := x
      rw [ht] at h
      simp only at h
      cases hr : textsO n q with
      | none => rw [hr] at h; cases h
      | some y =>
        rw [hr] at h
        cases h
        obtain ⟨h1, h2⟩ := ih (ts := y.1) hr
        rw [textO_enc ht, List.flatMap_cons, List.append_assoc, ← h1]
        exact ⟨rfl, by rw [List.length_cons, h2]⟩
theorem fieldL_enc {l : List UInt8} {f : Fld} {r : List UInt8} (h : fieldL l = some (f, r)) : l = encF f ++ r := by
  unfold fieldL at h
  split at h
  · cases h
  · cases h
  · rename_i nm c q ht
    split at h
    · cases h
    · cases hr : textsO c.toNat q with
      | none => rw [hr] at h; cases h
      | some y =>
        rw [hr] at h
        cases h
        obtain ⟨h1, h2⟩ := textsO_enc _ (ts := y.1) hr
        rw [textO_enc ht, h1]
        unfold encF
        simp only
        rw [h2]
        simp
theorem fieldsL_enc (n : Nat) {l : List UInt8} {fs : List Fld} {r : List UInt8} (h : fieldsL n l = some (fs, r)) : l = fs.flatMap encF ++ r ∧ fs.length = n := by
  induction n generalizing l fs with
  | zero => cases h; exact ⟨rfl, rfl⟩
  | succ n ih =>
    rw [fieldsL] at h
    cases ht : fieldL l with
    | none => rw [ht] at h; cases h
    | some x =>
      obtain ⟨t, q⟩ := x
      rw [ht] at h
      simp only at h
      cases hr : fieldsL n q with
      | none => rw [hr] at h; cases h
      | some y =>
        rw [hr] at h
        cases h
        obtain ⟨h1, h2⟩ := ih (fs := y.1) hr
        rw [fieldL_enc ht, List.flatMap_cons, List.append_assoc, ← h1]
        exact ⟨rfl, by rw [List.length_cons, h2]⟩

theorem decode_enc {l : List UInt8} {fs : List Fld} (h : decodeO l = some fs) : encL fs = l ∧ mayB fs = true := by
  rw [← rdec_eq] at h
  cases l with
  | nil => cases h
  | cons c r =>
    rw [rdecO_cons] at h
    split at h
    · cases h
    · split at h
      · rename_i gs hg
        split at h
        · rename_i hm
          cases h
          obtain ⟨h1, h2⟩ := fieldsL_enc _ hg
          unfold encL
          rw [h2]
          rw [h1]
          simp [hm]
        · cases h
      · cases h

end Go.Proofs.YtmjchokacmbkoaaDoor

/-
  The contracts of the reference's take and Decode.
-/
namespace Go.Proofs.YtmjchokacmbkoaaDoor
open Go.RowKit

theorem drop_cons {l : List UInt8} {a : Nat} (h : a < l.length) : l.drop a = l[a] :: l.drop (a + 1) := List.drop_eq_getElem_cons h

def RtPost (w : World) (l : List UInt8) (a : Nat) (e : Ending) (w' : World) : Prop :=
  w' = w ∧ ((textO (l.drop a) = none ∧ e = .returned (.tuple #[.string ⟨#[]⟩, .int .i64 (-1)])) ∨
    ∃ t k, textO (l.drop a) = some (t, l.drop k) ∧ k ≤ l.length ∧ e = .returned (.tuple #[.string t, .int .i64 (k : Nat)]))

set_option maxHeartbeats 2000000 in
set_option maxRecDepth 100000 in
theorem rtake_any (R : Nat) (v : Value) (l : List UInt8) (a : Nat) (w : World) (hv : RestAt R w v l) (ha : a ≤ l.length) :
    Calls Tryd.prog 40 #[v, .int .i64 (a : Nat)] w fun e w' => RtPost w l a e w' := by
  have hv' := hv
  obtain ⟨p, cap, rfl, hc1, hc2, hx⟩ := hv
  unfold maxLen at hc2
  have hneg : decide ((a : Int) < 0) = false := decide_eq_false (by omega)
  by_cases hlt : a < l.length
  · obtain ⟨b, off, rfl, hbR, hcell⟩ : ∃ b off, p = some ⟨b, off, none⟩ ∧ b < R ∧ ∀ i, (h : i < l.length) → w.cell? ⟨b, off + i, none⟩ = some (.int .u8 l[i].toNat) := by
      rcases hx with h | h
      · rw [h] at hlt; simp at hlt
      · exact h
    have hge : decide ((l.length : Int) ≤ (a : Int)) = false := decide_eq_false (by omega)
    have c0 := hcell a hlt
    have hdr := drop_cons hlt
    obtain ⟨c, hc⟩ : ∃ c, l[a] = c := ⟨_, rfl⟩
    rw [hc] at c0 hdr
    have HDR := hid hdr
    have HV := hid hv'
    have hclt := c.toNat_lt
    have i1 : (0 : Int) ≤ (a : Int) := by omega
    have i2 : (a : Int) < (l.length : Int) := by omega
    have HW : Hid (wrap64 (c.toNat : Int) = (c.toNat : Int)) := by show _ = _; unfold wrap64; omega
    clear hv' hx hcell hdr hc
    by_cases hbig : l.length - a - 1 < c.toNat
    · have HN : Hid (textO (l.drop a) = none) := by
        show _ = _
        rw [HDR.out, textO_cons, if_pos (by rw [List.length_drop]; omega)]
      have hbz : decide ((l.length : Int) - (a : Int) - 1 < (c.toNat : Int)) = true := decide_eq_true (by omega)
      go_enter Tryd.func40, Tryd.ntmps40
      go_wp2_with fail
      go_ret2
      exact ⟨rfl, Or.inl ⟨HN.out, rfl⟩⟩
    · have HN : Hid (textO (l.drop a) = some (⟨((l.drop (a + 1)).take c.toNat).toArray⟩, l.drop (a + 1 + c.toNat))) := by
        show _ = _
        rw [HDR.out, textO_cons, if_neg (by rw [List.length_drop]; omega), List.drop_drop]
      have hbz : decide ((l.length : Int) - (a : Int) - 1 < (c.toNat : Int)) = false := decide_eq_false (by omega)
      have j1 : (0 : Int) ≤ (a : Int) + 1 := by omega
      have j2 : (a : Int) + 1 ≤ (a : Int) + 1 + (c.toNat : Int) := by omega
      have j3 : (a : Int) + 1 + (c.toNat : Int) ≤ (cap : Int) := by omega
      have hdl : (l.drop (a + 1)).length = l.length - (a + 1) := List.length_drop
      have hk : ((a + 1 + c.toNat : Nat) : Int) = (a : Int) + 1 + (c.toNat : Int) := by omega
      have HK := hid hk
      clear hk
      by_cases hcap : cap = a + 1
      · subst hcap
        have hr0 := restAt_drop HV.out (a + 1) (by omega) (some ⟨b, off, none⟩) (by rw [if_pos rfl])
        rw [Nat.sub_self, ← hdl] at hr0
        have kc := conv_any (restAt_take hr0 c.toNat (by omega))
        clear hr0 hdl
        go_enter Tryd.func40, Tryd.ntmps40
        go_wp2_with fail
        go_ret2
        exact ⟨rfl, Or.inr ⟨_, _, HN.out, by omega, by rw [HK.out] <;> rfl⟩⟩
      · have hr0 := restAt_drop HV.out (a + 1) (by omega) (some ⟨b, off + (a + 1), none⟩) (by rw [if_neg hcap, Option.map_some, addr_add])
        rw [← hdl] at hr0
        have kc := conv_any (restAt_take hr0 c.toNat (by omega))
        clear hr0 hdl
        go_enter Tryd.func40, Tryd.ntmps40
        go_wp2_with fail
        go_ret2
        exact ⟨rfl, Or.inr ⟨_, _, HN.out, by omega, by rw [HK.out] <;> rfl⟩⟩
  · obtain rfl : a = l.length := by omega
    have HN : Hid (textO (l.drop l.length) = none) := by
      show _ = _
      rw [List.drop_length]; rfl
    clear hv' hx
    go_enter Tryd.func40, Tryd.ntmps40
    go_wp2_with fail
    go_ret2
    exact ⟨rfl, Or.inl ⟨HN.out, rfl⟩⟩

theorem drop_inj {l : List UInt8} {j k : Nat} (hj : j ≤ l.length) (hk : k ≤ l.length) (h : l.drop j = l.drop k) : j = k := by
  have := congrArg List.length h
  simp at this
  omega

theorem rtake_none (R : Nat) (v : Value) (l : List UInt8) (a : Nat) (w : World) (hv : RestAt R w v l) (ha : a ≤ l.length) (h : textO (l.drop a) = none) :
    Calls Tryd.prog 40 #[v, .int .i64 (a : Nat)] w fun e w' => e = .returned (.tuple #[.string ⟨#[]⟩, .int .i64 (-1)]) ∧ w' = w := by
  refine (rtake_any R v l a w hv ha).mono ?_
  rintro e w' ⟨rfl, ⟨_, he⟩ | ⟨t, k, h', _⟩⟩
  · exact ⟨he, rfl⟩
  · rw [h] at h'; cases h'

theorem rtake_some (R : Nat) (v : Value) (l : List UInt8) (a k : Nat) (t : ByteArray) (w : World) (hv : RestAt R w v l) (ha : a ≤ l.length) (h : textO (l.drop a) = some (t, l.drop k)) (hk : k ≤ l.length) :
    Calls Tryd.prog 40 #[v, .int .i64 (a : Nat)] w fun e w' => e = .returned (.tuple #[.string t, .int .i64 (k : Nat)]) ∧ w' = w := by
  refine (rtake_any R v l a w hv ha).mono ?_
  rintro e w' ⟨rfl, ⟨h', _⟩ | ⟨t', k', h', hk', he⟩⟩
  · rw [h] at h'; cases h'
  · rw [h] at h'
    simp only [Option.some.injEq, Prod.mk.injEq] at h'
    obtain ⟨rfl, e2⟩ := h'
    obtain rfl := drop_inj hk hk' e2
    exact ⟨he, rfl⟩

theorem textO_at {l : List UInt8} {a : Nat} {t : ByteArray} {r : List UInt8} (h : textO (l.drop a) = some (t, r)) : ∃ k, k ≤ l.length ∧ r = l.drop k := by
  have h1 := textO_enc h
  have h2 : l = (l.take a ++ encT t) ++ r := by rw [List.append_assoc, ← h1, List.take_append_drop]
  obtain ⟨x, hx⟩ : ∃ x, l.take a ++ encT t = x := ⟨_, rfl⟩
  rw [hx] at h2
  clear hx h1 h
  subst h2
  exact ⟨x.length, by simp, by rw [List.drop_left]⟩

theorem RestAt.on {R : Nat} {w w' : World} {v : Value} {l : List UInt8} (h : RestAt R w v l) (hb : Below R w w') : RestAt R w' v l := by
  obtain ⟨p, cap, rfl, h2, h3, h4⟩ := h
  refine ⟨p, cap, rfl, h2, h3, ?_⟩
  rcases h4 with h4 | ⟨b, off, hp, hbR, h4⟩
  · exact Or.inl h4
  · exact Or.inr ⟨b, off, hp, hbR, fun i hi => (hb.cell (p := ⟨b, off + i, none⟩) hbR).trans (h4 i hi)⟩

def endO (fs : List Fld) : List UInt8 → Option (List Fld)
  | [] => if mayB fs = true then some fs else none
  | _ :: _ => none

/-- Between two rounds of the outer loop. -/
def RdSt (w : World) (l : List UInt8) (n i a : Nat) (v : Value) (wr : World) : Prop :=
  ∃ d : List Fx, OwnXs w.heap.size wr v d ∧ d.length = i ∧ a ≤ l.length ∧ fieldsL n (l.drop 1) = (fieldsL (n - i) (l.drop a)).map (fun x => (d.map Fx.fld ++ x.1, x.2)) ∧ Below w.heap.size w wr

/-- Between two rounds of the inner loop: the field's box is F. -/
def RdIn (l : List UInt8) (F : Nat) (nm : ByteArray) (c a1 j a : Nat) (wr : World) : Prop :=
  ∃ sv ts, wr.heap[F]? = some (.cells #[.string nm, sv] 45 (0, 0)) ∧ OwnT (F + 1) wr sv ts ∧ ts.length = j ∧ a ≤ l.length ∧ textsO c (l.drop a1) = (textsO (c - j) (l.drop a)).map (fun x => (ts ++ x.1, x.2)) ∧ F < wr.heap.size

theorem fieldsL_step {n i a : Nat} {l : List UInt8} (h : i < n) : fieldsL (n - i) (l.drop a) = match fieldL (l.drop a) with
    | none => none
    | some (f, r) => (fieldsL (n - (i + 1)) r).map fun x => (f :: x.1, x.2) := by
  obtain ⟨k, hk⟩ : ∃ k, n - i = k + 1 := ⟨n - i - 1, by omega⟩
  rw [hk, show n - (i + 1) = k by omega]
  rfl
theorem textsO_step {n i : Nat} {l : List UInt8} (h : i < n) : textsO (n - i) l = match textO l with
    | none => none
    | some (t, r) => (textsO (n - (i + 1)) r).map fun x => (t :: x.1, x.2) := by
  obtain ⟨k, hk⟩ : ∃ k, n - i = k + 1 := ⟨n - i - 1, by omega⟩
  rw [hk, show n - (i + 1) = k by omega]
  rfl

theorem rdec_none {c : UInt8} {r : List UInt8} (h : fieldsL c.toNat r = none) : rdecO (c :: r) = none := by
  rw [rdecO_cons, h]
  split <;> rfl

set_option maxHeartbeats 8000000 in
set_option maxRecDepth 100000 in
theorem rdecode_any (v : Value) (l : List UInt8) (w : World) (hv : RestAt w.heap.size w v l) :
    Calls Tryd.prog 19 #[v] w fun e w' => DecPost w l e w' := by
  unfold DecPost
  rw [← rdec_eq]
  have HV := hid hv
  obtain ⟨i0, hi0, hz0, hz1, hz2⟩ := info_parts Tryd.infoStr
  obtain ⟨j0, hj0, hy0, hy1, hy2⟩ := info_parts Tryd.infoFld
  have HI := hid hi0
  have HJ := hid hj0
  clear hi0 hj0
  obtain ⟨p, cap, rfl, hc1, hc2, hx⟩ := hv
  unfold maxLen at hc2
  cases hl : l with
  | nil =>
    subst hl
    clear hx
    go_enter Tryd.func19, Tryd.ntmps19
    go_wp2_with fail
    go_ret2
    exact ⟨Or.inl ⟨rfl, rfl⟩, Below.refl _ _⟩
  | cons c0 r0 =>
    obtain ⟨b, off, rfl, hbR, hcell⟩ : ∃ b off, p = some ⟨b, off, none⟩ ∧ b < w.heap.size ∧ ∀ i, (h : i < l.length) → w.cell? ⟨b, off + i, none⟩ = some (.int .u8 l[i].toNat) := by
      rcases hx with h | h
      · rw [hl] at h; cases h
      · exact h
    have hlen : l.length = r0.length + 1 := by rw [hl]; rfl
    have hb0 : w.cell? ⟨b, off, none⟩ = some (.int .u8 c0.toNat) := by
      have e : l[0]'(by omega) = c0 := by simp [hl]
      have := hcell 0 (by omega)
      rw [e] at this
      exact this
    have HCELL := hid hcell
    have HLL := hid hl
    have hd1 : l.drop 1 = r0 := by rw [hl]; rfl
    have HD1 := hid hd1
    rw [← hl]
    have h1l : 1 ≤ l.length := by omega
    have HLEN := hid hlen
    clear hx hcell hl hd1 hlen
    have hne : ((l.length : Int) == 0) = false := beq_eq_false_iff_ne.2 (by omega)
    have hc0 := c0.toNat_lt
    have hl0 : (0 : Int) < (l.length : Int) := by omega
    by_cases h16 : 16 < c0.toNat
    · have h16z : decide ((16 : Int) < (c0.toNat : Int)) = true := decide_eq_true (by omega)
      have HN : Hid (rdecO l = none) := by show _ = _; rw [HLL.out, rdecO_cons, if_pos h16]
      go_enter Tryd.func19, Tryd.ntmps19
      go_wp2_with fail
      go_ret2
      exact ⟨Or.inl ⟨HN.out, rfl⟩, Below.refl _ _⟩
    · have h16z : decide ((16 : Int) < (c0.toNat : Int)) = false := decide_eq_false (by omega)
      have ST0 : Hid (RdSt w l c0.toNat 0 1 (.slice none 0 0) w) := ⟨[], ⟨World.ownsRow_nil _ _ _ _, fun x hx => by simp at hx⟩, rfl, by omega, by rw [HD1.out]; simp, Below.refl _ _⟩
      go_enter Tryd.func19, Tryd.ntmps19
      go_wp2_with fail
      go_loopg [4, 5, 6] c0.toNat (fun g v4 va vi wr => ∃ i a : Nat, vi = .int .i64 i ∧ va = .int .i64 a ∧ i ≤ c0.toNat ∧ c0.toNat - i ≤ g ∧ RdSt w l c0.toNat i a v4 wr)
      case atStart => exact ⟨0, 1, rfl, rfl, by omega, by omega, ST0.out⟩
      case round =>
        obtain ⟨i, a, rfl, rfl, hi, hgk, d, hox, hdl, ha, hfl, hb⟩ := hrel
        have hbc : wr.cell? ⟨b, off, none⟩ = some (.int .u8 c0.toNat) := (hb.cell (p := ⟨b, off, none⟩) hbR).trans hb0
        have HNF : Hid (i < c0.toNat → fieldL (l.drop a) = none → rdecO l = none) := fun hlt h => by
          rw [HLL.out]
          refine rdec_none ?_
          rw [← HD1.out, hfl, fieldsL_step hlt, h]
          rfl
        have HFL := hid hfl
        have HOX := hid hox
        have HB := hid hb
        have HDL := hid hdl
        have hszr := hb.size
        clear hfl hox hb hdl
        by_cases hlt : i < c0.toNat
        · have hltz : (i : Int) < (c0.toNat : Int) := by omega
          have hltb : decide ((i : Int) < (c0.toNat : Int)) = true := decide_eq_true hltz
          obtain ⟨W1, hW1⟩ : ∃ W1, wr.alloc (.cells #[.string ⟨#[]⟩, .slice none 0 0] 45) = W1 := ⟨_, rfl⟩
          have hbW1 : Below w.heap.size w W1 := by rw [← hW1]; exact HB.out.alloc hszr _
          have hF1 : W1.heap[wr.heap.size]? = some (.cells #[.string ⟨#[]⟩, .slice none 0 0] 45 (0, 0)) := by rw [← hW1]; exact heap_alloc_new wr _
          have hbF1 : Below wr.heap.size wr W1 := by rw [← hW1]; exact (Below.refl _ wr).alloc (Nat.le_refl _) _
          have hsW1 : W1.heap.size = wr.heap.size + 1 := by rw [← hW1]; simp
          obtain ⟨f0, f1, f2, f3⟩ := box_facts hF1
          have hrW := HV.out.on hbW1
          have HW1 := hid hW1
          clear hW1
          cases hto : textO (l.drop a) with
          | none =>
            have HT := hid (rtake_none _ _ l a W1 hrW ha hto)
            have HN : Hid (rdecO l = none) := HNF.out hlt (by unfold fieldL; rw [hto])
            clear hrW hto
            go_wp2_with (first | (go_at_call 40; rw [HW1.out]; refine HT.out.mono ?_; rintro e w2 ⟨rfl, rfl⟩))
            go_ret2
            exact ⟨Or.inl ⟨HN.out, rfl⟩, hbW1.setCell (p := ⟨wr.heap.size, 0, none⟩) hszr _⟩
          | some x =>
            obtain ⟨nm, r⟩ := x
            obtain ⟨k, hk, rfl⟩ := textO_at hto
            have HT := hid (rtake_some _ _ l a k nm W1 hrW ha hto hk)
            have hkneg : decide ((k : Int) < 0) = false := decide_eq_false (by omega)
            obtain ⟨W2, hW2⟩ : ∃ W2, W1.setCell ⟨wr.heap.size, 0, none⟩ (.string nm) = W2 := ⟨_, rfl⟩
            have hbW2 : Below w.heap.size w W2 := by rw [← hW2]; exact hbW1.setCell (p := ⟨wr.heap.size, 0, none⟩) hszr _
            have hF2 : W2.heap[wr.heap.size]? = some (.cells #[.string nm, .slice none 0 0] 45 (0, 0)) := by rw [← hW2]; exact rd_set0 hF1
            have hbF2 : Below wr.heap.size wr W2 := by rw [← hW2]; exact hbF1.setCell (p := ⟨wr.heap.size, 0, none⟩) (Nat.le_refl _) _
            have hsW2 : W2.heap.size = wr.heap.size + 1 := by rw [← hW2]; simp [World.setCell]; exact hsW1
            have HW2 := hid hW2
            have HTO := hid hto
            clear hrW hto hW2
            by_cases hkl : k < l.length
            · have hkb : decide ((l.length : Int) ≤ (k : Int)) = false := decide_eq_false (by omega)
              have hkb2 : decide (l.length ≤ k) = false := decide_eq_false (by omega)
              have hki : (k : Int) < (l.length : Int) := by omega
              have hk0 : (0 : Int) ≤ (k : Int) := by omega
              have hck := HCELL.out k hkl
              have hdk := drop_cons hkl
              obtain ⟨c, hc⟩ : ∃ c, l[k] = c := ⟨_, rfl⟩
              rw [hc] at hck hdk
              have hc8 := c.toNat_lt
              have hckW : W2.cell? ⟨b, off + k, none⟩ = some (.int .u8 c.toNat) := (hbW2.cell (p := ⟨b, off + k, none⟩) hbR).trans hck
              have HDK := hid hdk
              clear hc hck hdk
              by_cases h8 : 8 < c.toNat
              · have h8z : decide ((8 : Int) < (c.toNat : Int)) = true := decide_eq_true (by omega)
                have HN : Hid (rdecO l = none) := HNF.out hlt (by unfold fieldL; rw [HTO.out, HDK.out]; simp only; rw [if_pos h8])
                go_wp2_with (first | (go_at_call 40; rw [HW1.out]; refine HT.out.mono ?_; rintro e w2 ⟨rfl, rfl⟩) | (rw [HW2.out]))
                go_ret2
                exact ⟨Or.inl ⟨HN.out, rfl⟩, hbW2⟩
              · have h8z : decide ((8 : Int) < (c.toNat : Int)) = false := decide_eq_false (by omega)
                obtain ⟨F, hF⟩ : ∃ F, wr.heap.size = F := ⟨_, rfl⟩
                have IN0 : Hid (RdIn l F nm c.toNat (k + 1) 0 (k + 1) W2 ∧ Below F wr W2) := by
                  subst hF
                  exact ⟨⟨.slice none 0 0, [], hF2, World.ownsRow_nil _ _ _ _, rfl, by omega, by simp, by omega⟩, hbF2⟩
                have KP : Hid (∀ W, Below F wr W → OwnXs w.heap.size W u4 d ∧ Below w.heap.size w W ∧ RestAt w.heap.size W (.slice (some ⟨b, off, none⟩) l.length cap) l ∧ F ≤ W.heap.size ∧ W.cell? ⟨b, off, none⟩ = some (.int .u8 c0.toNat)) := fun W h => by
                  subst hF
                  have hbw := HB.out.trans (h.mono hszr)
                  exact ⟨HOX.out.on h, hbw, HV.out.on hbw, h.size, (hbw.cell (p := ⟨b, off, none⟩) hbR).trans hb0⟩
                have hFw : w.heap.size ≤ F := by omega
                have HFE := hid hF
                clear hF
                have HFO : Hid (∀ ts q, textsO c.toNat (l.drop (k + 1)) = some (ts, q) → fieldL (l.drop a) = some ((nm, ts), q)) := fun ts q h => by
                  unfold fieldL; rw [HTO.out, HDK.out]; simp only; rw [if_neg h8, h]; rfl
                have HFN : Hid (textsO c.toNat (l.drop (k + 1)) = none → rdecO l = none) := fun h => HNF.out hlt (by
                  unfold fieldL; rw [HTO.out, HDK.out]; simp only; rw [if_neg h8, h]; rfl)
                go_wp2_with (first | (go_at_call 40; rw [HW1.out]; refine HT.out.mono ?_; rintro e w2 ⟨rfl, rfl⟩) | (rw [HW2.out]))
                clear hF2 hF1 f0 f1 f2 f3 hbF1 hsW1 hbW1 hbF2
                rw [HFE.out]
                clear hsW2 hszr
                go_loopg [5, 9] c.toNat (fun g va vj wj => ∃ j a' : Nat, vj = .int .i64 j ∧ va = .int .i64 a' ∧ j ≤ c.toNat ∧ c.toNat - j ≤ g ∧ RdIn l F nm c.toNat (k + 1) j a' wj ∧ Below F wr wj)
                case atStart => exact ⟨0, k + 1, rfl, by go_num, by omega, by omega, IN0.out⟩
                case round =>
                  obtain ⟨j, a', rfl, rfl, hj, hgj, ⟨sv, ts, hbF, hot, htl, ha', hte, hFl⟩, hbj⟩ := hrel
                  obtain ⟨hoxj, hbwj, hrj, hFj, hbcj⟩ := KP.out _ hbj
                  have KJ : Hid (∀ W, Below F wr W → OwnXs w.heap.size W u4 d ∧ Below w.heap.size w W ∧ RestAt w.heap.size W (.slice (some ⟨b, off, none⟩) l.length cap) l ∧ F ≤ W.heap.size ∧ W.cell? ⟨b, off, none⟩ = some (.int .u8 c0.toNat)) := fun W h => KP.out W (hbj.trans h)
                  have HTL := hid htl
                  have HTE := hid hte
                  have HOT := hid hot
                  have HBF := hid hbF
                  obtain ⟨g0, g1, g2, g3⟩ := box_facts hbF
                  clear htl hte hot
                  by_cases hlj : j < c.toNat
                  · have hljz : decide ((j : Int) < (c.toNat : Int)) = true := decide_eq_true (by omega)
                    cases hto2 : textO (l.drop a') with
                    | none =>
                      have HT2 := hid (rtake_none _ _ l a' wr hrj ha' hto2)
                      have HN : Hid (rdecO l = none) := HFN.out (by rw [HTE.out, textsO_step hlj, hto2]; rfl)
                      clear hto2
                      go_wp2_with (first | (go_at_call 40; refine HT2.out.mono ?_; rintro e w3 ⟨rfl, rfl⟩))
                      go_ret2
                      exact ⟨Or.inl ⟨HN.out, rfl⟩, hbwj⟩
                    | some y =>
                      obtain ⟨t, r2⟩ := y
                      obtain ⟨k2, hk2, rfl⟩ := textO_at hto2
                      have HT2 := hid (rtake_some _ _ l a' k2 t wr hrj ha' hto2 hk2)
                      have hk2neg : decide ((k2 : Int) < 0) = false := decide_eq_false (by omega)
                      have HTN : Hid (textsO c.toNat (l.drop (k + 1)) = (textsO (c.toNat - (j + 1)) (l.drop k2)).map (fun x => ((ts ++ [t]) ++ x.1, x.2))) := by
                        show _ = _
                        rw [HTE.out, textsO_step hlj, hto2]
                        simp only [Option.map_map]
                        congr 1
                        funext x
                        simp
                      clear hto2
                      go_wp2_with (first | (go_at_call 40; refine HT2.out.mono ?_; rintro e w3 ⟨rfl, rfl⟩) | (at_builtin; refine wpList_append_own _ rfl _ _ 40 rfl (F + 1) 9 i0 (.string ⟨#[]⟩) 1 16 Tryd.underlying40 HI.out hz0 hz1 hz2 rfl (by decide) _ _ _ rfl (World.ownsRow.alloc HOT.out _) ⟨w3.heap.size, 0, none⟩ 1 1 [.string t] rfl rfl ?c1 ?c2 ?c3 ?c4 ?c5 ?_))
                      case c1 =>
                        intro m u hm
                        match m, hm with
                        | 0, hm => simp at hm; subst hm; simp [Addr.add]
                      case c2 => intro u hu; simp at hu; subst hu; rfl
                      case c3 => rw [HTL.out]; unfold maxLen; omega
                      case c4 => rw [HTL.out]; omega
                      case c5 => simp; omega
                      intro v4 w4 hown4 hg4 _
                      obtain ⟨g', cap', rfl⟩ := ownsRow_succ hown4
                      have hbF4 : w4.heap[F]? = some (.cells #[.string nm, sv] 45 (0, 0)) := ((hg4.block F (by simp; omega) (fun e => absurd ((World.ownsRow.lt HOT.out F e.symm).1) (by omega))).trans (Below.heap_alloc _ _ F hFl)).trans HBF.out
                      obtain ⟨m0, m1, m2, m3⟩ := box_facts hbF4
                      have hb4 : Below F w3 w4 := ((Below.refl F w3).alloc hFj _).grown hg4 (by simp; omega) (fun q hq => by have := (World.ownsRow.lt HOT.out q hq).1; omega)
                      have hsz4 := hb4.size
                      have HIN : Hid (RdIn l F nm c.toNat (k + 1) (j + 1) k2 (w4.setCell ⟨F, 1, none⟩ (.slice (some ⟨g', 0, none⟩) (ts.length + 1) cap')) ∧ Below F w3 (w4.setCell ⟨F, 1, none⟩ (.slice (some ⟨g', 0, none⟩) (ts.length + 1) cap'))) := by
                        refine ⟨⟨_, ts ++ [t], rd_set1 hbF4, ?_, by rw [List.length_append, HTL.out]; rfl, hk2, HTN.out, by simp [World.setCell]; omega⟩, hb4.setCell (p := ⟨F, 1, none⟩) (Nat.le_refl _) _⟩
                        refine OwnT.grown (R := F) ?_ (grown_set w4 F 1 _) (by omega)
                        unfold OwnT
                        simp only [List.length_append, List.length_cons, List.length_nil, List.map_append, List.map_cons, List.map_nil]
                        exact hown4
                      clear hown4 hg4 hbF4 hb4
                      go_wp2_with fail
                      go_roundg (c.toNat - (j + 1))
                      case measure => omega
                      exact ⟨j + 1, k2, by go_num, rfl, by omega, by omega, HIN.out.1, hbj.trans HIN.out.2⟩
                  · obtain rfl : j = c.toNat := by omega
                    have hljz : decide ((c.toNat : Int) < (c.toNat : Int)) = false := decide_eq_false (by omega)
                    have HFF : Hid (fieldL (l.drop a) = some ((nm, ts), l.drop a')) := HFO.out _ _ (by rw [HTE.out, Nat.sub_self]; simp [textsO])
                    obtain ⟨p', cap', rfl⟩ := own_slice HOT.out
                    have HOJ := hid hoxj
                    have HBW := hid hbwj
                    have hszw := hbwj.size
                    clear hoxj hbwj hrj
                    go_wp2_with (first | (at_builtin; refine wpList_append_own _ rfl _ _ 22 rfl w.heap.size 45 j0 (.agg #[.string ⟨#[]⟩, .slice none 0 0]) 2 40 Tryd.underlying22 HJ.out hy0 hy1 hy2 rfl (by decide) _ _ _ rfl (World.ownsRow.alloc HOJ.out.1 _) ⟨wr.heap.size, 0, none⟩ 1 1 (cellsX [⟨nm, p', cap', ts⟩]) rfl rfl (news_x wr ⟨nm, p', cap', ts⟩) (cellsX_one _) ?c3 ?c4 ?c5 ?_))
                    case c3 => rw [HDL.out]; unfold maxLen; omega
                    case c4 => rw [HDL.out]; omega
                    case c5 => simp; omega
                    intro v5 w5 hown5 hg5 _
                    have hxo : OwnXs w.heap.size (wr.alloc (.cells #[.string nm, .slice p' ts.length cap'] 45)) u4 d := HOJ.out.on ((Below.refl _ _).alloc (Nat.le_refl _) _)
                    have hox5 := hxo.put (x := ⟨nm, p', cap', ts⟩) (own_weak (OwnT.on HOT.out ((Below.refl _ _).alloc (Nat.le_refl _) _)) (by omega)) hown5 hg5
                    have hb5 : Below w.heap.size w w5 := (HBW.out.alloc hszw _).grown hg5 (by simp; omega) (fun q hq => (World.ownsRow.lt HOJ.out.1 q hq).1)
                    have HST : Hid (RdSt w l c0.toNat (i + 1) a' v5 w5) := by
                      refine ⟨_, hox5, by rw [List.length_append, HDL.out]; rfl, ha', ?_, hb5⟩
                      rw [HFL.out, fieldsL_step hlt, HFF.out]
                      simp only [Option.map_map]
                      congr 1
                      funext x
                      simp [Fx.fld]
                    clear hown5 hg5 hxo hox5 hb5
                    go_wp2_with fail
                    go_roundg (c0.toNat - (i + 1))
                    case measure => omega
                    exact ⟨i + 1, a', by go_num, rfl, by omega, by omega, HST.out⟩
            · have hkb : decide ((l.length : Int) ≤ (k : Int)) = true := decide_eq_true (by omega)
              have hkb2 : decide (l.length ≤ k) = true := decide_eq_true (by omega)
              have HN : Hid (rdecO l = none) := HNF.out hlt (by unfold fieldL; rw [HTO.out, List.drop_of_length_le (by omega)])
              go_wp2_with (first | (go_at_call 40; rw [HW1.out]; refine HT.out.mono ?_; rintro e w2 ⟨rfl, rfl⟩) | (rw [HW2.out]))
              go_ret2
              exact ⟨Or.inl ⟨HN.out, rfl⟩, hbW2⟩
        · obtain rfl : i = c0.toNat := by omega
          have hltb : decide ((c0.toNat : Int) < (c0.toNat : Int)) = false := decide_eq_false (by omega)
          have hfl := HFL.out
          rw [Nat.sub_self] at hfl
          have hfs : fieldsL c0.toNat r0 = some (d.map Fx.fld, l.drop a) := by
            rw [← HD1.out, hfl]
            simp [fieldsL]
          have hsm : ∀ f ∈ d.map Fx.fld, FitF f := by
            rcases fieldsS_L c0.toNat r0 with ⟨h1, _⟩ | ⟨fs, q, h1, h2⟩
            · rw [hfs] at h1; cases h1
            · rw [hfs] at h1
              cases h1
              have := fieldsS_small c0.toNat (r0, false)
              rw [h2] at this
              exact this
          have HMY := hid (rmay_any u4 d wr HOX.out.is (fitX_of rfl (by rw [HDL.out]; unfold maxLen; omega) hsm))
          have HRD : Hid (rdecO l = endO (d.map Fx.fld) (l.drop a)) := (congrArg rdecO HLL.out).trans (by
            rw [rdecO_cons, if_neg h16, hfs]
            generalize l.drop a = q
            cases q <;> rfl)
          clear hfl hfs hsm
          by_cases hal : a = l.length
          · subst hal
            have hnb : ((l.length : Int) != (l.length : Int)) = false := by simp
            rw [List.drop_length] at HRD
            cases hm : mayB (d.map Fx.fld) with
            | false =>
              rw [hm] at HMY
              have HN : Hid (rdecO l = none) := by show _ = _; rw [HRD.out]; simp [endO, hm]
              go_wp2_with (first | (go_at_call 14; refine HMY.out.mono ?_; rintro e w2 ⟨rfl, hg2⟩))
              go_ret2
              exact ⟨Or.inl ⟨HN.out, rfl⟩, HB.out.trans (hg2.below.mono hszr)⟩
            | true =>
              rw [hm] at HMY
              have HN : Hid (rdecO l = some (d.map Fx.fld)) := by show _ = _; rw [HRD.out]; simp [endO, hm]
              go_wp2_with (first | (go_at_call 14; refine HMY.out.mono ?_; rintro e w2 ⟨rfl, hg2⟩))
              go_ret2
              exact ⟨Or.inr ⟨_, HN.out, _, d, rfl, HOX.out.on hg2.below, rfl⟩, HB.out.trans (hg2.below.mono hszr)⟩
          · have hnb : ((a : Int) != (l.length : Int)) = true := by simp; omega
            have HN : Hid (rdecO l = none) := by
              show _ = _
              rw [HRD.out, drop_cons (show a < l.length by omega)]
              rfl
            go_wp2_with fail
            go_ret2
            exact ⟨Or.inl ⟨HN.out, rfl⟩, HB.out⟩

end Go.Proofs.YtmjchokacmbkoaaDoor

/-
  The contracts of SameTexts, SameFields and Same of the reference.
-/
namespace Go.Proofs.YtmjchokacmbkoaaDoor
open Go.RowKit

theorem str_ne {s t : ByteArray} (h : ¬ s = t) : (s.toList == t.toList) = false := by
  rw [Lib.toList_data, Lib.toList_data, beq_eq_false_iff_ne]
  intro e
  apply h
  obtain ⟨⟨s⟩⟩ := s
  obtain ⟨⟨t⟩⟩ := t
  simp at e
  rw [e]

set_option maxHeartbeats 1000000 in
set_option maxRecDepth 100000 in
theorem sameT_any (p q : Option Addr) (cap cap' : Nat) (ts us : List ByteArray) (w : World) (h1 : TxtAt w p ts) (h2 : TxtAt w q us) (hl1 : ts.length ≤ maxLen) :
    Calls Tryd.prog 46 #[.slice p ts.length cap, .slice q us.length cap'] w fun e w' => e = .returned (.bool (decide (ts = us))) ∧ ∃ n, w' = w.drewN n := by
  unfold maxLen at hl1
  obtain ⟨r, hr⟩ : ∃ r, decide (ts = us) = r := ⟨_, rfl⟩
  rw [hr]
  have HR := hid hr
  have H1 := hid h1
  have H2 := hid h2
  clear hr h1 h2
  by_cases hl : ts.length = us.length
  · have hb : ((ts.length : Int) != (us.length : Int)) = false := by simp [hl]
    have HL := hid hl
    clear hl
    go_enter Tryd.func46, Tryd.ntmps46
    go_wp2_with fail
    go_loopg [5] ts.length (fun g vi wr => ∃ i m : Nat, vi = .int .i64 i ∧ i ≤ ts.length ∧ ts.length - i ≤ g ∧ wr = w.drewN m ∧ Hid (∀ j, j < i → ts[j]? = us[j]?))
    case atStart => exact ⟨0, 0, rfl, by omega, by omega, rfl, fun j h => by omega⟩
    case round =>
      obtain ⟨i, m, rfl, hi, hg, rfl, HJ⟩ := hrel
      by_cases hlt : i < ts.length
      · have hlt2 : i < us.length := by rw [← HL.out]; exact hlt
        have i1 : (0 : Int) ≤ ↑i := by omega
        have i2 : (↑i : Int) < ↑ts.length := by omega
        have i3 : (↑i : Int) < ↑us.length := by omega
        rcases H1.out with hn | ⟨b1, o1, rfl, k1⟩
        · rw [hn] at hlt; simp at hlt
        rcases H2.out with hn | ⟨b2, o2, rfl, k2⟩
        · rw [hn] at hlt2; simp at hlt2
        have e1 := k1 i hlt
        have e2 := k2 i hlt2
        have g1 : ts[i]? = some ts[i] := List.getElem?_eq_getElem hlt
        have g2 : us[i]? = some us[i] := List.getElem?_eq_getElem hlt2
        clear k1 k2
        obtain ⟨s, hs⟩ : ∃ s, ts[i] = s := ⟨_, rfl⟩
        obtain ⟨t, ht⟩ : ∃ t, us[i] = t := ⟨_, rfl⟩
        rw [hs] at e1 g1
        rw [ht] at e2 g2
        have G1 := hid g1
        have G2 := hid g2
        clear hs ht g1 g2
        by_cases hst : s = t
        · subst hst
          go_wp2_with fail
          go_quiet (fail)
          go_wp2_with fail
          go_roundg (ts.length - (i + 1))
          case measure => omega
          refine ⟨i + 1, _, by go_num, by omega, by omega, rfl, fun j hj => ?_⟩
          by_cases e : j = i
          · subst e; rw [G1.out, G2.out]
          · exact HJ.out j (by omega)
        · have hne := str_ne hst
          have H0 : Hid (r = false) := HR.out.symm.trans (decide_eq_false fun e => hst (by
            have := G1.out
            rw [e, G2.out] at this
            exact (Option.some.inj this).symm))
          go_wp2_with fail
          go_quiet (fail)
          go_wp2_with fail
          go_ret
          exact ⟨ret_bool H0.out.symm, _, by rw [World.drewN_drewN]⟩
      · have hltz : ¬ (i : Int) < (ts.length : Int) := by omega
        have H0 : Hid (r = true) := HR.out.symm.trans (decide_eq_true (List.ext_getElem? fun j => by
          by_cases hj : j < ts.length
          · exact HJ.out j (by omega)
          · rw [List.getElem?_eq_none (by omega), List.getElem?_eq_none (by have := HL.out; omega)]))
        go_wp2_with fail
        go_ret
        exact ⟨ret_bool H0.out.symm, _, rfl⟩
  · have hb : ((ts.length : Int) != (us.length : Int)) = true := by simp; omega
    have H0 : Hid (r = false) := HR.out.symm.trans (decide_eq_false fun e => hl (by rw [e]))
    go_enter Tryd.func46, Tryd.ntmps46
    go_wp2_with fail
    go_ret
    exact ⟨ret_bool H0.out.symm, 0, rfl⟩

theorem TxtAt.draws {w : World} {p : Option Addr} {ts : List ByteArray} (h : TxtAt w p ts) (n : Nat) : TxtAt (w.drewN n) p ts := h

set_option maxHeartbeats 2000000 in
set_option maxRecDepth 100000 in
theorem sameF_any (v u : Value) (d e : List Fx) (w : World) (hv : IsXs w v d) (hu : IsXs w u e) (hf : FitX d) (hg : FitX e) :
    Calls Tryd.prog 24 #[v, u] w fun r w' => r = .returned (.bool (decide (d.map Fx.fld = e.map Fx.fld))) ∧ ∃ n, w' = w.drewN n := by
  obtain ⟨p, cap, rfl, hd, ht⟩ := hv
  obtain ⟨q, cap', rfl, he, ht'⟩ := hu
  have hl1 := hf.1
  have hl2 := hg.1
  unfold maxLen at hl1 hl2
  have HF := hid hf.2
  have HG := hid hg.2
  have HD := hid hd
  have HE := hid he
  have HT := hid ht
  have HT' := hid ht'
  obtain ⟨r, hr⟩ : ∃ r, decide (d.map Fx.fld = e.map Fx.fld) = r := ⟨_, rfl⟩
  rw [hr]
  have HR := hid hr
  clear hr hd he ht ht' hf hg
  by_cases hl : d.length = e.length
  · have hb : ((d.length : Int) != (e.length : Int)) = false := by simp [hl]
    have HL := hid hl
    clear hl
    go_enter Tryd.func24, Tryd.ntmps24
    go_wp2_with fail
    go_loopg [5] d.length (fun g vi wr => ∃ i m : Nat, vi = .int .i64 i ∧ i ≤ d.length ∧ d.length - i ≤ g ∧ wr = w.drewN m ∧ Hid (∀ j, j < i → (d.map Fx.fld)[j]? = (e.map Fx.fld)[j]?))
    case atStart => exact ⟨0, 0, rfl, by omega, by omega, rfl, fun j h => by omega⟩
    case round =>
      obtain ⟨i, m, rfl, hi, hgk, rfl, HJ⟩ := hrel
      by_cases hlt : i < d.length
      · have hlt2 : i < e.length := by rw [← HL.out]; exact hlt
        have i1 : (0 : Int) ≤ ↑i := by omega
        have i2 : (↑i : Int) < ↑d.length := by omega
        have i3 : (↑i : Int) < ↑e.length := by omega
        rcases HD.out with hn | ⟨b1, o1, rfl, k1⟩
        · rw [hn] at hlt; simp at hlt
        rcases HE.out with hn | ⟨b2, o2, rfl, k2⟩
        · rw [hn] at hlt2; simp at hlt2
        obtain ⟨x0, x1⟩ := k1 i hlt
        obtain ⟨y0, y1⟩ := k2 i hlt2
        have g1 : (d.map Fx.fld)[i]? = some (d[i]).fld := by rw [List.getElem?_map, List.getElem?_eq_getElem hlt]; rfl
        have g2 : (e.map Fx.fld)[i]? = some (e[i]).fld := by rw [List.getElem?_map, List.getElem?_eq_getElem hlt2]; rfl
        have fx := HF.out _ (List.getElem_mem hlt)
        have fy := HG.out _ (List.getElem_mem hlt2)
        have tx := HT.out _ (List.getElem_mem hlt)
        have ty := HT'.out _ (List.getElem_mem hlt2)
        clear k1 k2
        obtain ⟨x, hx⟩ : ∃ x, d[i] = x := ⟨_, rfl⟩
        obtain ⟨y, hy⟩ : ∃ y, e[i] = y := ⟨_, rfl⟩
        rw [hx] at x0 x1 g1 fx tx
        rw [hy] at y0 y1 g2 fy ty
        unfold Fx.sl at x1 y1
        have G1 := hid g1
        have G2 := hid g2
        obtain ⟨W, hW⟩ : ∃ W, w.drewN m = W := ⟨_, rfl⟩
        have HC : Hid (∀ n, Calls Tryd.prog 46 #[.slice x.p x.txt.length x.cap, .slice y.p y.txt.length y.cap] (W.drewN n) fun r w' => r = .returned (.bool (decide (x.txt = y.txt))) ∧ ∃ k, w' = (W.drewN n).drewN k) := fun n => by
          subst hW
          exact sameT_any _ _ _ _ _ _ _ tx ty fx.2.1
        replace x0 : W.cell? ⟨b1, o1 + i * 2, none⟩ = some (.string x.name) := by subst hW; exact x0
        replace x1 : W.cell? ⟨b1, o1 + i * 2 + 1, none⟩ = some (.slice x.p x.txt.length x.cap) := by subst hW; exact x1
        replace y0 : W.cell? ⟨b2, o2 + i * 2, none⟩ = some (.string y.name) := by subst hW; exact y0
        replace y1 : W.cell? ⟨b2, o2 + i * 2 + 1, none⟩ = some (.slice y.p y.txt.length y.cap) := by subst hW; exact y1
        have HW := hid hW
        rw [hW]
        have mixed := Tryd.mixed
        clear hx hy g1 g2 fx fy tx ty hW
        by_cases hst : x.name = y.name
        · obtain ⟨nm, hnm⟩ : ∃ nm, y.name = nm := ⟨_, rfl⟩
          rw [hst, hnm] at x0
          rw [hnm] at y0
          have HN : Hid (x.name = nm ∧ y.name = nm) := ⟨hst.trans hnm, hnm⟩
          clear hst hnm
          by_cases hts : x.txt = y.txt
          · have hd := decide_eq_true hts
            have HTS := hid hts
            rw [hd] at HC
            clear hd hts
            go_wp2_with fail
            refine wp_region_quiet_lit mixed (by kernel_rfl) ?_
            repeat (go_big_quiet_step (first | (go_at_call 46; refine Calls.quiet_of (HC.out _))))
            refine wpQuiet_nil ?_
            intro _ hw'
            obtain ⟨nq, hw''⟩ := hw'
            subst hw''
            go_wp2_with fail
            go_roundg (d.length - (i + 1))
            case measure => omega
            refine ⟨i + 1, m + nq, by go_num, by omega, by omega, by rw [← HW.out, World.drewN_drewN], fun j hj => ?_⟩
            by_cases ej : j = i
            · subst ej
              rw [G1.out, G2.out]
              unfold Fx.fld
              rw [HN.out.1, HN.out.2, HTS.out]
            · exact HJ.out j (by omega)
          · have hd := decide_eq_false hts
            rw [hd] at HC
            have H0 : Hid (r = false) := HR.out.symm.trans (decide_eq_false fun ee => hts (by
              have := G1.out
              rw [ee, G2.out] at this
              have := congrArg Prod.snd (Option.some.inj this)
              exact this.symm))
            clear hd hts
            go_wp2_with fail
            refine wp_region_quiet_lit mixed (by kernel_rfl) ?_
            repeat (go_big_quiet_step (first | (go_at_call 46; refine Calls.quiet_of (HC.out _))))
            refine wpQuiet_nil ?_
            intro _ hw'
            obtain ⟨nq, hw''⟩ := hw'
            subst hw''
            go_wp2_with fail
            go_ret
            exact ⟨ret_bool H0.out.symm, m + nq, by rw [← HW.out, World.drewN_drewN]⟩
        · have hne := str_ne hst
          have H0 : Hid (r = false) := HR.out.symm.trans (decide_eq_false fun ee => hst (by
            have := G1.out
            rw [ee, G2.out] at this
            have := congrArg Prod.fst (Option.some.inj this)
            exact this.symm))
          go_wp2_with fail
          refine wp_region_quiet_lit mixed (by kernel_rfl) ?_
          repeat (go_big_quiet_step (first | (go_at_call 46; refine Calls.quiet_of (HC.out _))))
          refine wpQuiet_nil ?_
          intro _ hw'
          obtain ⟨nq, hw''⟩ := hw'
          subst hw''
          go_wp2_with fail
          go_ret
          exact ⟨ret_bool H0.out.symm, m + nq, by rw [← HW.out, World.drewN_drewN]⟩
      · have hltz : ¬ (i : Int) < (d.length : Int) := by omega
        have H0 : Hid (r = true) := HR.out.symm.trans (decide_eq_true (List.ext_getElem? fun j => by
          by_cases hj : j < d.length
          · exact HJ.out j (by omega)
          · rw [List.getElem?_eq_none (by simp; omega), List.getElem?_eq_none (by have := HL.out; simp; omega)]))
        go_wp2_with fail
        go_ret
        exact ⟨ret_bool H0.out.symm, _, rfl⟩
  · have hb : ((d.length : Int) != (e.length : Int)) = true := by simp; omega
    have H0 : Hid (r = false) := HR.out.symm.trans (decide_eq_false fun ee => hl (by have := congrArg List.length ee; simpa using this))
    go_enter Tryd.func24, Tryd.ntmps24
    go_wp2_with fail
    go_ret
    exact ⟨ret_bool H0.out.symm, 0, rfl⟩

set_option maxHeartbeats 1000000 in
theorem same_any (v u : Value) (d e : List Fx) (k : Int) (w : World) (hv : IsXs w v d) (hu : IsXs w u e) (hf : FitX d) (hg : FitX e) :
    Calls Tryd.prog 12 #[v, u, .int .i64 k, .int .i64 k] w fun r w' => r = .returned (.bool (decide (d.map Fx.fld = e.map Fx.fld))) ∧ ∃ n, w' = w.drewN n := by
  have HC := hid (sameF_any v u d e w hv hu hf hg)
  clear hv hu
  go_enter Tryd.func12, Tryd.ntmps12
  go_wp2_with (first | (go_at_call 24; refine HC.out.mono ?_; rintro r w1 ⟨rfl, n, rfl⟩))
  go_ret
  exact ⟨rfl, n, rfl⟩

end Go.Proofs.YtmjchokacmbkoaaDoor

/-
  ValueDecodes answers true.
-/
namespace Go.Proofs.YtmjchokacmbkoaaDoor
open Go.RowKit

theorem is_nil (w : World) : IsXs w (.slice none 0 0) [] := ⟨none, 0, rfl, Or.inl rfl, fun x hx => by simp at hx⟩
theorem fit_nil : FitX [] := ⟨by unfold maxLen; simp, fun x hx => by simp at hx⟩

theorem dec_fit {l : List UInt8} {d : List Fx} {fs : List Fld} (h : decodeO l = some fs) (hm : d.map Fx.fld = fs) : FitX d := by
  have hmay := (decode_enc h).2
  have hl := (may_parts hmay).1
  refine ⟨?_, fun x hx => ?_⟩
  · rw [← hm, List.length_map] at hl
    unfold maxLen; omega
  · have hx' : x.fld ∈ fs := by rw [← hm]; exact List.mem_map.2 ⟨x, hx, rfl⟩
    obtain ⟨h1, _, h3, h4, _⟩ := fits_parts (may_fits hmay _ hx')
    refine ⟨?_, ?_, fun t ht => ?_⟩
    · unfold maxLen; omega
    · unfold maxLen; omega
    · have := h4 t ht; unfold maxLen; omega

set_option maxHeartbeats 2000000 in
set_option maxRecDepth 100000 in
theorem decodes_any (v : Value) (l : List UInt8) (w : World) (hp : PlainAt w) (hv : RestAt w.heap.size w v l) :
    Calls Tryd.prog 5 #[v] w fun e w' => e = .returned (.bool true) ∧ Below w.heap.size w w' := by
  have HP := hid hp
  have HV := hid hv
  clear hp hv
  have HRV : Hid (∀ W, Below w.heap.size w W → RestAt W.heap.size W v l) := fun W h => by
    obtain ⟨p, cap, rfl, h2, h3, h4⟩ := HV.out.on h
    refine ⟨p, cap, rfl, h2, h3, ?_⟩
    rcases h4 with h4 | ⟨b, off, hp, hbR, h4⟩
    · exact Or.inl h4
    · exact Or.inr ⟨b, off, hp, Nat.lt_of_lt_of_le hbR h.size, h4⟩
  cases hd : decodeO l with
  | none =>
    have HD := hid hd
    clear hd
    go_enter Tryd.func5, Tryd.ntmps5
    go_wp2_with (first
      | (go_at_call 9; refine (fixed_any _ HP.out).mono ?_; rintro e w1 ⟨rfl, q1⟩)
      | (go_at_call 18; refine (decode_any v l w1 (HRV.out _ q1)).mono ?_; rintro e w2 ⟨h | ⟨fs, h, _⟩, q2⟩; rotate_left; (rw [HD.out] at h; cases h); obtain ⟨_, rfl⟩ := h; have b2 : Below w.heap.size w w2 := bel_then q1 q1.size q2)
      | (go_at_call 19; refine (rdecode_any v l w2 (HRV.out _ b2)).mono ?_; rintro e w3 ⟨h | ⟨fs, h, _⟩, q3⟩; rotate_left; (rw [HD.out] at h; cases h); obtain ⟨_, rfl⟩ := h; have b3 : Below w.heap.size w w3 := bel_then b2 b2.size q3)
      | (go_at_call 12; refine (same_any _ _ [] [] 4 w3 (is_nil _) (is_nil _) fit_nil fit_nil).mono ?_; rintro e w4 ⟨rfl, n, rfl⟩))
    go_ret
    exact ⟨rfl, bel_drewN b3 n⟩
  | some fs =>
    obtain ⟨henc, hmay⟩ := decode_enc hd
    have HD := hid hd
    have HE := hid henc
    have HM := hid hmay
    clear hd henc hmay
    go_enter Tryd.func5, Tryd.ntmps5
    go_wp2_with (first
      | (go_at_call 9; refine (fixed_any _ HP.out).mono ?_; rintro e w1 ⟨rfl, q1⟩)
      | (go_at_call 18; refine (decode_any v l w1 (HRV.out _ q1)).mono ?_; rintro e w2 ⟨⟨h, _⟩ | ⟨fs2, h2, u2, d2, rfl, o2, m2⟩, q2⟩; (rw [HD.out] at h; cases h); obtain rfl := Option.some.inj (HD.out.symm.trans h2); have b2 : Below w.heap.size w w2 := bel_then q1 q1.size q2; have O2 := hid o2; have M2 := hid m2; clear o2 m2)
      | (go_at_call 19; refine (rdecode_any v l w2 (HRV.out _ b2)).mono ?_; rintro e w3 ⟨⟨h, _⟩ | ⟨fs3, h3, u3, d3, rfl, o3, m3⟩, q3⟩; (rw [HD.out] at h; cases h); obtain rfl := Option.some.inj (HD.out.symm.trans h3); have b3 : Below w.heap.size w w3 := bel_then b2 b2.size q3; have O3 := hid o3; have M3 := hid m3; have O23 := hid (O2.out.on q3); have HSM := hid (same_any u2 u3 d2 d3 0 w3 O23.out.is O3.out.is (dec_fit HD.out M2.out) (dec_fit HD.out M3.out)); rw [show decide (d2.map Fx.fld = d3.map Fx.fld) = true from decide_eq_true (M2.out.trans M3.out.symm)] at HSM; clear o3 m3)
      | (go_at_call 12; refine HSM.out.mono ?_; rintro e w4 ⟨rfl, n, rfl⟩; have HI4 : Hid (IsXs (w3.drewN n) u2 d2) := hid O23.out.is; have b4 : Below w.heap.size w (w3.drewN n) := bel_drewN b3 n; have HEC := hid (encode_yes u2 d2 (w3.drewN n) HI4.out (dec_fit HD.out M2.out) (by rw [M2.out]; exact HM.out)); rw [M2.out, HE.out] at HEC)
      | (go_at_call 15; refine HEC.out.mono ?_; rintro e w5 ⟨⟨u5, rfl, o5⟩, q5⟩; have b5 : Below w.heap.size w w5 := bel_then b4 b4.size q5; have kc := conv_any (ownB_rest o5); have kd := conv_any (HRV.out _ b5); have HMY := hid (may_any u2 d2 w5 (HI4.out.kept q5) (dec_fit HD.out M2.out)); rw [M2.out, HM.out] at HMY)
      | (go_at_call 13; refine HMY.out.mono ?_; rintro e w6 ⟨rfl, q6⟩))
    go_ret
    exact ⟨rfl, bel_then b5 b5.size q6.below⟩

end Go.Proofs.YtmjchokacmbkoaaDoor
