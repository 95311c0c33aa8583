/-
  Texts of this claim, one behind the other: Fix Byt Rwr Sze0 Rpr Rp6 Grp Rnm Rnn Ncd Nms Rrd Txs Lin0 Rwd Rp7 Rp8 Pc7 Pc8 Kp0 Pc9.
-/
import Derived.Test.YtfcjnoojcajljabGreatDoorPb
import Derived.Deep.CutRange
import Derived.Laws.Runes
import Derived.Test.YtfcjnoojcajljabGreatDoorPa
import Derived.Laws.RangeString
import Derived.Lib.IndexAny
import Derived.ChangeMaps5
import Derived.Deep.QuietTactic
import Derived.BigQuiet
import Derived.WalkMore
import Derived.Laws.CopyOwn
import Derived.Maps.AppendAt
/-
  fixed answers true.
-/
namespace Go.Proofs.YtfcjnoojcajljabGreatDoor
open Go.RowKit Go.Sort Go.Lib

theorem fitF_small (fs : List Fld) (h : fs.all (fun f => decide (f.1.size ≤ 100) && decide (f.2.length ≤ 100) && f.2.all fun t => decide (t.size ≤ 100)) = true) : ∀ f ∈ fs, FitF f := by
  intro f hf
  rw [List.all_eq_true] at h
  have := h f hf
  simp only [Bool.and_eq_true, decide_eq_true_eq, List.all_eq_true] at this
  exact ⟨Nat.le_trans this.1.1 (by decide), Nat.le_trans this.1.2 (by decide), fun t ht => Nat.le_trans (this.2 t ht) (by decide)⟩

theorem fitFx {d : List Fx} {fs : List Fld} (h : d.map Fx.fld = fs) (hl : fs.length ≤ 100) (hf : ∀ f ∈ fs, FitF f) : FitX d := by
  subst h
  rw [List.length_map] at hl
  exact ⟨Nat.le_trans hl (by decide), fun x hx => hf _ (List.mem_map.2 ⟨x, hx, rfl⟩)⟩

theorem fixA_fit : ∀ f ∈ fixA, FitF f := fitF_small _ (by decide)
theorem fixN_fit : ∀ f ∈ fixN, FitF f := fitF_small _ (by decide)
theorem fixE_fit : ∀ f ∈ fixE, FitF f := fitF_small _ (by decide)
theorem fixQ_fit : ∀ f ∈ fixQ, FitF f := fitF_small _ (by decide)

/-- What an answer of Norm or Parse is known by. -/
def OwnAns (w : World) (fs : List Fld) (n : Nat) (e : Ending) (w' : World) : Prop :=
  ∃ p c d, e = .returned (.tuple #[.slice p n c, .int .i64 0]) ∧ OwnXs w.heap.size w' (.slice p n c) d ∧ d.map Fx.fld = fs ∧ Below w.heap.size w w'

theorem own_len {n0 : Nat} {w : World} {u : Value} {d : List Fx} (h : OwnXs n0 w u d) : ∃ p c, u = .slice p d.length c := by
  rcases h.1.2 with ⟨rfl, h0⟩ | ⟨g, cap, cur, rfl, _⟩
  · exact ⟨none, 0, by rw [h0]⟩
  · exact ⟨_, _, rfl⟩

theorem ownAns_of {w w' : World} {u : Value} {d : List Fx} {fs : List Fld} {n : Nat} (hn : fs.length = n) (ho : OwnXs w.heap.size w' u d) (hm : d.map Fx.fld = fs) (hb : Below w.heap.size w w') : OwnAns w fs n (.returned (.tuple #[u, .int .i64 0])) w' := by
  obtain ⟨p, c, rfl⟩ := own_len ho
  have e : d.length = n := by rw [← hn, ← hm, List.length_map]
  rw [e] at ho ⊢
  exact ⟨p, c, d, rfl, ho, hm, hb⟩

theorem own_rest {n0 : Nat} {w : World} {g c : Nat} {l : List UInt8} (h : OwnB n0 w (.slice (some ⟨g, 0, none⟩) l.length c) l) : RestAt w.heap.size w (.slice (some ⟨g, 0, none⟩) l.length c) l := by
  rcases h.2 with ⟨hv, _⟩ | ⟨g', cap, cur, hv, _, hg, hc, hcm, hsz, htk⟩
  · cases hv
  · cases hv
    refine ⟨_, _, rfl, by omega, by omega, Or.inr ⟨g, 0, rfl, (Array.getElem?_eq_some_iff.1 hg).1, fun i hi => ?_⟩⟩
    rw [Nat.zero_add, cell_of_row w g i cur _ _ hg]
    have : (Lib.byteCells l)[i]? = cur.toList[i]? := by
      rw [← htk, List.getElem?_take, if_pos (by omega)]
    rw [← Array.getElem?_toList, ← this]
    simp [Lib.byteCells, hi]

theorem fix_readc (w : World) (hp : PlainAt w) : Calls Tryz.prog 39 #[.string ⟨#[97, 37, 50, 48, 98]⟩] w fun e w' => e = .returned (.tuple #[.string ⟨#[97, 32, 98]⟩, .int .i64 0]) ∧ Below w.heap.size w w' := by
  have := read_any ⟨#[97, 37, 50, 48, 98]⟩ w hp (by decide)
  rw [show (⟨#[97, 37, 50, 48, 98]⟩ : ByteArray).data.toList = [97, 37, 50, 48, 98] from rfl, fix_read] at this
  exact this

theorem fix_writec (w : World) (hp : PlainAt w) : Calls Tryz.prog 40 #[.string ⟨#[97, 32, 98]⟩] w fun e w' => e = .returned (.string ⟨#[97, 37, 50, 48, 98]⟩) ∧ Below w.heap.size w w' := by
  have := write_any ⟨#[97, 32, 98]⟩ w hp (by decide)
  rw [show (⟨#[97, 32, 98]⟩ : ByteArray).data.toList = [97, 32, 98] from rfl, fix_write] at this
  exact this

theorem fix_textsc (v : Value) (d : List Fx) (w : World) (hv : IsXs w v d) (hm : d.map Fx.fld = fixN) : Calls Tryz.prog 22 #[v, .string ⟨#[98]⟩] w fun e w' => (∃ p c, e = .returned (.slice p 2 c)) ∧ Below w.heap.size w w' := by
  have hft := fitFx hm (by decide) fixN_fit
  have := texts_any v ⟨#[98]⟩ d w hv hft (fun x hx => by
    have hx' : x.fld ∈ fixN := by rw [← hm]; exact List.mem_map.2 ⟨x, hx, rfl⟩
    have h2 : ∀ f ∈ fixN, f.2.length ≤ 2 := by decide
    have h3 : x.txt.length ≤ 2 := h2 _ hx'
    omega)
  rw [hm, fix_texts] at this
  refine this.mono ?_
  rintro e w' ⟨⟨u, rfl, ho⟩, hq⟩
  obtain ⟨p, c, rfl⟩ := own_slice ho
  exact ⟨⟨p, c, rfl⟩, hq⟩

theorem lit_row {w : World} {b : Nat} {cs : Array Value} {T : TypeId} {d : List Fx} {n cap : Nat} (h : w.heap[b]? = some (.cells cs T (0, 0))) (hcs : cs.toList = cellsX d) (hn : n = d.length) (ht : ∀ x ∈ d, x.at w) : IsXs w (.slice (some ⟨b, 0, none⟩) n cap) d := by
  subst hn
  refine ⟨_, _, rfl, Or.inr ⟨b, 0, rfl, fun i hi => ?_⟩, ht⟩
  obtain ⟨c0, c1⟩ := cellsX_get d i hi
  rw [Nat.zero_add, cell_of_row w b _ cs _ _ h, cell_of_row w b _ cs _ _ h, ← Array.getElem?_toList, ← Array.getElem?_toList, hcs]
  exact ⟨c0, c1⟩

theorem lit_txt {w : World} {b : Nat} {cs : Array Value} {T : TypeId} {ts : List ByteArray} (h : w.heap[b]? = some (.cells cs T (0, 0))) (hcs : cs.toList = ts.map Value.string) : TxtAt w (some ⟨b, 0, none⟩) ts := by
  refine Or.inr ⟨b, 0, rfl, fun i hi => ?_⟩
  rw [Nat.zero_add, cell_of_row w b i cs _ _ h, ← Array.getElem?_toList, hcs]
  simp [hi]

end Go.Proofs.YtfcjnoojcajljabGreatDoor

/-
  ValueBytes answers true.
-/
namespace Go.Proofs.YtfcjnoojcajljabGreatDoor
open Go.RowKit

theorem ownB_rest {n0 : Nat} {w : World} {u : Value} {l : List UInt8} (h : OwnB n0 w u l) : RestAt w.heap.size w u l := by
  rcases h.2 with ⟨rfl, h0⟩ | ⟨g', cap, cur, rfl, _⟩
  · obtain rfl := List.length_eq_zero_iff.1 h0
    exact ⟨none, 0, rfl, by simp, by unfold maxLen; omega, Or.inl rfl⟩
  · exact own_rest h

theorem ownB_slice {n0 : Nat} {w : World} {u : Value} {l : List UInt8} (h : OwnB n0 w u l) : ∃ p c, u = .slice p l.length c := by
  rcases h.2 with ⟨rfl, h0⟩ | ⟨g', cap, cur, rfl, _⟩
  · exact ⟨none, 0, by rw [h0]⟩
  · exact ⟨_, _, rfl⟩

end Go.Proofs.YtfcjnoojcajljabGreatDoor

/-
  The contract of the reference's Write.
-/
namespace Go.Proofs.YtfcjnoojcajljabGreatDoor
open Go.RowKit

theorem new_bytes3 (w : World) (a b c : Int) : ∀ j u, ([.int .u8 a, .int .u8 b, .int .u8 c] : List Value)[j]? = some u → (w.alloc (.cells #[.int .u8 a, .int .u8 b, .int .u8 c] 5)).cell? ((⟨w.heap.size, 0, none⟩ : Addr).add j) = some u := by
  intro j u hj
  match j, hj with
  | 0, hj => simp at hj; subst hj; simp [Addr.add]
  | 1, hj => simp at hj; subst hj; rw [addr_add]; simp
  | 2, hj => simp at hj; subst hj; rw [addr_add]; simp

theorem one_bytes3 (a b c : Int) : ∀ u ∈ ([.int .u8 a, .int .u8 b, .int .u8 c] : List Value), u.oneCell' = true := by
  intro u hu; simp at hu; rcases hu with rfl | rfl | rfl <;> rfl

theorem ownB_puts {n0 : Nat} {w : World} {v : Value} {bs cs : List UInt8} {n : Nat} {xs : List Value} (h : w.ownsRow n0 5 1 v n (Lib.byteCells bs ++ xs)) (hn : n = bs.length + cs.length) (hx : Lib.byteCells cs = xs) : OwnB n0 w v (bs ++ cs) := by
  subst hn hx
  unfold OwnB
  rw [List.length_append]
  have : Lib.byteCells (bs ++ cs) = Lib.byteCells bs ++ Lib.byteCells cs := by simp [Lib.byteCells]
  rw [this]
  exact h

theorem wrap_byte (n : Int) (h : 0 ≤ n ∧ n < 256) : IntKind.u8.wrap n = n := by
  simp [IntKind.wrap, IntKind.signed, IntKind.bits]; omega

end Go.Proofs.YtfcjnoojcajljabGreatDoor

/-
  How long a value's bytes are, and how many blanks its line has.
-/
namespace Go.Proofs.YtfcjnoojcajljabGreatDoor
open Go.RowKit Go.Lib

/-- What ValueSizes counts. -/
def cntF (f : Fld) : Nat := 2 + f.1.size + (f.2.map fun t => 1 + t.size).sum
def cntB (fs : List Fld) : Nat := 1 + (fs.map cntF).sum

theorem encTs_len (ts : List ByteArray) : (ts.flatMap encT).length = (ts.map fun t => 1 + t.size).sum := by
  induction ts with
  | nil => rfl
  | cons t ts ih =>
    rw [List.flatMap_cons, List.length_append, encT_len, ih, List.map_cons, List.sum_cons]
    omega

theorem encF_cnt (f : Fld) : (encF f).length = cntF f := by
  unfold encF cntF
  rw [List.length_append, List.length_append, encT_len, encTs_len]
  simp only [List.length_cons, List.length_nil]
  omega

theorem encL_cnt (fs : List Fld) : (encL fs).length = cntB fs := by
  unfold encL cntB
  rw [List.length_cons]
  have : (fs.flatMap encF).length = (fs.map cntF).sum := by
    induction fs with
    | nil => rfl
    | cons f fs ih => rw [List.flatMap_cons, List.length_append, encF_cnt, ih, List.map_cons, List.sum_cons]
  omega

/-- The blanks of a text. -/
def blanks (l : List UInt8) : Nat := l.countP fun c => c == 32

theorem blanks_append (a b : List UInt8) : blanks (a ++ b) = blanks a + blanks b := List.countP_append ..

theorem blanks_join : ∀ ws : List (List UInt8), (∀ w ∈ ws, blanks w = 0) → blanks (Lib.join ws [32]) = ws.length - 1
  | [], _ => rfl
  | [w], h => by
    have := h w (by simp)
    simpa [Lib.join] using this
  | w :: v :: ws, h => by
    have h1 := h w (by simp)
    have ih := blanks_join (v :: ws) (fun x hx => h x (by simp [hx]))
    have e : Lib.join (w :: v :: ws) [32] = w ++ [32] ++ Lib.join (v :: ws) [32] := by simp [Lib.join]
    rw [e, blanks_append, blanks_append, h1, ih]
    simp [blanks]
    omega

theorem field_noblank {l : List UInt8} (h : fieldB l = true) : blanks l = 0 := by
  unfold blanks
  rw [List.countP_eq_zero]
  intro c hc
  unfold fieldB spell at h
  cases l with
  | nil => simp at hc
  | cons x r =>
    simp only [Bool.and_eq_true, List.all_eq_true] at h
    have key : lodB (c.toNat : Int) = true ∨ smallB (c.toNat : Int) = true := by
      rcases List.mem_cons.1 hc with rfl | hc
      · exact Or.inr h.1.2
      · exact Or.inl (h.2 c hc)
    intro e
    have e : c = 32 := by simpa using e
    subst e
    rcases key with k | k
    · revert k; decide
    · revert k; decide

theorem hexd_noblank (k : Nat) (h : k < 16) : (hexd k == 32) = false := by
  have t : ((List.range 16).all fun k => !(hexd k == 32)) = true := by decide
  have := List.all_eq_true.1 t k (List.mem_range.2 h)
  simpa using this

theorem write_noblank (l : List UInt8) : blanks (writeL l) = 0 := by
  induction l with
  | nil => rfl
  | cons c l ih =>
    rw [writeL_cons, blanks_append, ih]
    unfold writeC
    cases hp : plainB (c.toNat : Int) with
    | true =>
      have : (c == 32) = false := by
        rw [beq_eq_false_iff_ne]
        intro e
        subst e
        revert hp; decide
      simp [blanks, this]
    | false =>
      have hc := c.toNat_lt
      simp [blanks, hexd_noblank (c.toNat / 16) (by omega), hexd_noblank (c.toNat % 16) (by omega)]

theorem word_data (n t : ByteArray) : (wordOf n t).data.toList = n.data.toList ++ [61] ++ writeL t.data.toList := by
  unfold wordOf
  obtain ⟨⟨n⟩⟩ := n
  simp

theorem word_noblank {n t : ByteArray} (h : fieldB n.data.toList = true) : blanks (wordOf n t).data.toList = 0 := by
  rw [word_data, blanks_append, blanks_append, field_noblank h, write_noblank]
  rfl

theorem words_cnt (fs : List Fld) : (wordsL fs).length = totF fs := by
  unfold wordsL totF
  induction fs with
  | nil => rfl
  | cons f fs ih => rw [List.flatMap_cons, List.length_append, ih]; simp [wordsF]

theorem line_blanks {fs : List Fld} (h : mayB fs = true) : blanks (lineOf fs).data.toList = totF fs - 1 := by
  unfold lineOf
  show blanks (Lib.join ((wordsL fs).map (·.data.toList)) [32]).toArray.toList = _
  rw [List.toList_toArray, blanks_join, List.length_map, words_cnt]
  intro w hw
  obtain ⟨x, hx, rfl⟩ := List.mem_map.1 hw
  obtain ⟨f, hf, hx⟩ := List.mem_flatMap.1 hx
  obtain ⟨t, _, rfl⟩ := List.mem_map.1 hx
  exact word_noblank (fits_parts (may_fits h f hf)).2.2.2.2

theorem line_empty (fs : List Fld) : (lineOf fs).size = 0 ↔ totF fs = 0 := by
  have e : (lineOf fs).size = (Lib.join ((wordsL fs).map (·.data.toList)) [32]).length := by
    show (Lib.join ((wordsL fs).map (·.data.toList)) [32]).toArray.size = _
    simp
  rw [e, ← words_cnt]
  cases hw : wordsL fs with
  | nil => simp [Lib.join, List.intercalate]
  | cons x r =>
    have hx : x ∈ wordsL fs := by rw [hw]; simp
    obtain ⟨f, hf, hx⟩ := List.mem_flatMap.1 hx
    obtain ⟨t, _, rfl⟩ := List.mem_map.1 hx
    have hl : 0 < (wordOf f.1 t).data.toList.length := by rw [word_data]; simp; omega
    constructor
    · intro h
      exfalso
      cases r with
      | nil =>
        rw [List.map_cons, List.map_nil, Lib.join_one] at h
        omega
      | cons y r =>
        have : Lib.join ((wordOf f.1 t :: y :: r).map (·.data.toList)) [32] = (wordOf f.1 t).data.toList ++ [32] ++ Lib.join ((y :: r).map (·.data.toList)) [32] := by simp [Lib.join]
        rw [this] at h
        simp at h
    · intro h; simp at h

theorem join_size (c : Nat) : ∀ ws : List (List UInt8), (∀ w ∈ ws, w.length ≤ c) → (Lib.join ws [32]).length ≤ ws.length * (c + 1)
  | [], _ => by simp [Lib.join, List.intercalate]
  | [w], h => by
    have := h w (by simp)
    rw [Lib.join_one]
    simp
    omega
  | w :: v :: ws, h => by
    have h1 := h w (by simp)
    have ih := join_size c (v :: ws) (fun x hx => h x (by simp [hx]))
    have e : Lib.join (w :: v :: ws) [32] = w ++ [32] ++ Lib.join (v :: ws) [32] := by simp [Lib.join]
    have e2 : (w :: v :: ws).length * (c + 1) = (v :: ws).length * (c + 1) + (c + 1) := by rw [List.length_cons, Nat.add_mul, Nat.one_mul]
    have e3 : ([32] : List UInt8).length = 1 := rfl
    rw [e, List.length_append, List.length_append, e2, e3]
    omega

theorem line_size {fs : List Fld} (h : mayB fs = true) : (lineOf fs).size ≤ 53504 := by
  have e : (lineOf fs).size = (Lib.join ((wordsL fs).map (·.data.toList)) [32]).length := by
    show (Lib.join ((wordsL fs).map (·.data.toList)) [32]).toArray.size = _
    simp
  have h1 := join_size 417 ((wordsL fs).map (·.data.toList)) (fun w hw => by
    obtain ⟨x, hx, rfl⟩ := List.mem_map.1 hw
    obtain ⟨f, hf, hx⟩ := List.mem_flatMap.1 hx
    obtain ⟨t, ht, rfl⟩ := List.mem_map.1 hx
    simpa using word_len (may_fits h f hf) ht)
  have h2 := wordsL_len (fun f hf => may_fits h f hf) (may_parts h).1
  rw [List.length_map] at h1
  have h3 : (wordsL fs).length * (417 + 1) ≤ 128 * (417 + 1) := Nat.mul_le_mul_right _ h2
  omega

theorem cnt_small {fs : List Fld} (h : mayB fs = true) (i : Nat) : 1 + ((fs.take i).map cntF).sum ≤ 17057 := by
  have h1 : ((fs.take i).map cntF).sum = ((fs.take i).flatMap encF).length := by
    generalize fs.take i = gs
    induction gs with
    | nil => rfl
    | cons f gs ih => rw [List.flatMap_cons, List.length_append, encF_cnt, ← ih, List.map_cons, List.sum_cons]
  have := enc_ahead h i
  omega

theorem tot_small {fs : List Fld} (h : mayB fs = true) (i : Nat) : totF (fs.take i) ≤ 128 := by
  rw [← words_cnt]
  refine wordsL_len (fun f hf => may_fits h f (List.mem_of_mem_take hf)) ?_
  have := (may_parts h).1
  rw [List.length_take]
  omega

end Go.Proofs.YtfcjnoojcajljabGreatDoor

/-
  The contract of the reference's Print.
-/
namespace Go.Proofs.YtfcjnoojcajljabGreatDoor
open Go.RowKit Go.Lib

def lineB (ws : List ByteArray) : ByteArray := ⟨(Lib.join (ws.map (·.data.toList)) [32]).toArray⟩

theorem lineB_data (ws : List ByteArray) : (lineB ws).data.toList = Lib.join (ws.map (·.data.toList)) [32] := by
  unfold lineB
  rw [List.toList_toArray]

theorem join_snoc : ∀ (ws : List (List UInt8)) (x : List UInt8), ws ≠ [] → Lib.join (ws ++ [x]) [32] = Lib.join ws [32] ++ 32 :: x
  | [], _, h => absurd rfl h
  | [w], x, _ => by rw [List.singleton_append, join_two, Lib.join_one, Lib.join_one]
  | w :: v :: ws, x, _ => by
    have ih := join_snoc (v :: ws) x (by simp)
    rw [List.cons_append, List.cons_append, join_two, ← List.cons_append, ih, join_two]
    simp

theorem data_append (a b : ByteArray) : (a ++ b).data.toList = a.data.toList ++ b.data.toList := by
  simp

theorem lineB_first (n t : ByteArray) : lineB [wordOf n t] = ⟨#[]⟩ ++ n ++ ⟨#[61]⟩ ++ ⟨(writeL t.data.toList).toArray⟩ := by
  refine ba_eq ?_
  rw [lineB_data, List.map_cons, List.map_nil, Lib.join_one]
  unfold wordOf
  simp only [data_append]
  simp

theorem lineB_next {ws : List ByteArray} (h : ws ≠ []) (n t : ByteArray) : lineB (ws ++ [wordOf n t]) = lineB ws ++ ⟨#[32]⟩ ++ n ++ ⟨#[61]⟩ ++ ⟨(writeL t.data.toList).toArray⟩ := by
  refine ba_eq ?_
  rw [lineB_data, List.map_append, List.map_cons, List.map_nil, join_snoc _ _ (by simpa using h)]
  simp only [data_append, lineB_data]
  unfold wordOf
  simp only [data_append]
  simp

theorem lineB_size {ws : List ByteArray} (hn : ws.length ≤ 200) (hs : ∀ x ∈ ws, x.size ≤ 417) : (lineB ws).size ≤ 83600 := by
  have e : (lineB ws).size = (Lib.join (ws.map (·.data.toList)) [32]).length := by rw [← lineB_data]; simp
  have h1 := join_size 417 (ws.map (·.data.toList)) (fun w hw => by
    obtain ⟨x, hx, rfl⟩ := List.mem_map.1 hw
    simpa using hs x hx)
  rw [List.length_map] at h1
  have h3 : ws.length * (417 + 1) ≤ 200 * (417 + 1) := Nat.mul_le_mul_right _ hn
  omega

theorem lineB_ne {ws : List ByteArray} (h : ws ≠ []) (hs : ∀ x ∈ ws, 0 < x.size) : (lineB ws).toList.isEmpty = false := by
  rw [Lib.toList_data, lineB_data]
  match ws, h with
  | [x], _ =>
    have := hs x (by simp)
    rw [List.map_cons, List.map_nil, Lib.join_one]
    cases hx : x.data.toList with
    | nil =>
      have h3 : x.data.toList.length = x.size := by simp
      rw [hx] at h3
      simp at h3
      omega
    | cons _ _ => rfl
  | x :: y :: ws, _ =>
    rw [List.map_cons, List.map_cons, join_two]
    cases x.data.toList with
    | nil => rfl
    | cons _ _ => rfl

theorem word_pos (n t : ByteArray) : 0 < (wordOf n t).size := by
  have : 0 < (wordOf n t).data.toList.length := by rw [word_data]; simp; omega
  simpa using this

end Go.Proofs.YtfcjnoojcajljabGreatDoor

/-
  The contract of the reference's Print of terms.
-/
namespace Go.Proofs.YtfcjnoojcajljabGreatDoor
open Go.RowKit Go.Lib

/-- The word of a term. -/
def wordM (x : Tm) : ByteArray := x.1 ++ ⟨#[opC x.2.1]⟩ ++ ⟨(writeL x.2.2.data.toList).toArray⟩
/-- The line of terms. -/
def lineM (p : List Tm) : ByteArray := lineB (p.map wordM)

theorem wordM_data (x : Tm) : (wordM x).data.toList = x.1.data.toList ++ opC x.2.1 :: writeL x.2.2.data.toList := by
  unfold wordM
  simp only [data_append]
  simp

theorem lineM_nil : lineM [] = ⟨#[]⟩ := rfl

theorem lineM_first (x : Tm) : lineB [wordM x] = ⟨#[]⟩ ++ x.1 ++ ⟨#[opC x.2.1]⟩ ++ ⟨(writeL x.2.2.data.toList).toArray⟩ := by
  refine ba_eq ?_
  rw [lineB_data, List.map_cons, List.map_nil, Lib.join_one, wordM_data]
  simp only [data_append]
  simp

theorem lineM_next {ws : List ByteArray} (h : ws ≠ []) (x : Tm) : lineB (ws ++ [wordM x]) = lineB ws ++ ⟨#[32]⟩ ++ x.1 ++ ⟨#[opC x.2.1]⟩ ++ ⟨(writeL x.2.2.data.toList).toArray⟩ := by
  refine ba_eq ?_
  rw [lineB_data, List.map_append, List.map_cons, List.map_nil, join_snoc _ _ (by simpa using h)]
  simp only [data_append, lineB_data, wordM_data]
  simp

theorem wordM_len {x : Tm} (h1 : namedM x = true) (h2 : shortM x = true) : (wordM x).size ≤ 417 := by
  have e : (wordM x).size = (wordM x).data.toList.length := by simp
  have h3 := fieldB_len h1
  have h4 := writeL_len x.2.2.data.toList
  have h5 : x.2.2.data.toList.length = x.2.2.size := by simp
  have h6 := of_decide_eq_true h2
  rw [e, wordM_data, List.length_append, List.length_cons]
  omega

theorem ansM_all {p : List Tm} (x : Tm) (h : x ∈ ansM p) : namedM x = true ∧ rightM x = true ∧ shortM x = true := by
  unfold ansM at h
  by_cases hm : mayM p = 0
  · rw [if_pos hm] at h
    obtain ⟨_, h1, h2, h3⟩ := mayM_zero hm
    have hx := ((sortM_spec p).2 x).1 h
    exact ⟨List.all_eq_true.1 h1 x hx, List.all_eq_true.1 h2 x hx, List.all_eq_true.1 h3 x hx⟩
  · rw [if_neg hm] at h; simp at h

theorem ansM_len (p : List Tm) : (ansM p).length ≤ 8 := by
  unfold ansM
  by_cases hm : mayM p = 0
  · rw [if_pos hm]
    have := sortM_len p
    have := (mayM_zero hm).1
    omega
  · rw [if_neg hm]; simp

theorem rightM_range {x : Tm} (h : rightM x = true) : 1 ≤ x.2.1 ∧ x.2.1 ≤ 7 := by
  unfold rightM at h
  rw [Bool.and_eq_true, Bool.and_eq_true] at h
  exact ⟨of_decide_eq_true h.1.1, of_decide_eq_true h.1.2⟩

theorem sign_at (m : Nat) (h : m < 7) : Utf8.encode (((⟨#[61, 33, 94, 60, 62, 63, 45]⟩ : ByteArray)[m]'h).toNat : Int) = ⟨#[opC ((m : Int) + 1)]⟩ := by
  have : m = 0 ∨ m = 1 ∨ m = 2 ∨ m = 3 ∨ m = 4 ∨ m = 5 ∨ m = 6 := by omega
  rcases this with rfl | rfl | rfl | rfl | rfl | rfl | rfl <;> decide +revert

theorem wrap_i64 (n : Int) (h1 : -9223372036854775808 ≤ n) (h2 : n ≤ 9223372036854775807) : IntKind.i64.wrap n = n := by
  simp [IntKind.wrap, IntKind.signed, IntKind.bits]; omega

end Go.Proofs.YtfcjnoojcajljabGreatDoor

/-
  What joins of fields in order are: each name once, in order, with all its texts.
-/
namespace Go.Proofs.YtfcjnoojcajljabGreatDoor
open Go.RowKit Go.Sort Go.Lib

/-- All texts of a name, one after the other. -/
def txtOf (fs : List Fld) (c : ByteArray) : List ByteArray := (fs.filter fun x => decide (x.1 = c)).flatMap (·.2)

def Rising (l : List Fld) : Prop := l.Pairwise fun x y => ltB x.1 y.1 = true

theorem txtOf_snoc (l : List Fld) (f : Fld) (c : ByteArray) : txtOf (l ++ [f]) c = txtOf l c ++ if f.1 = c then f.2 else [] := by
  unfold txtOf
  rw [List.filter_append, List.flatMap_append]
  by_cases e : f.1 = c
  · rw [if_pos e, List.filter_cons_of_pos (by simp [e])]; simp
  · rw [if_neg e, List.filter_cons_of_neg (by simp [e])]; simp

theorem txtOf_none {l : List Fld} {c : ByteArray} (h : ∀ f ∈ l, f.1 ≠ c) : txtOf l c = [] := by
  unfold txtOf
  rw [List.filter_eq_nil_iff.2 (fun x hx => by simpa using h x hx)]
  rfl

structure Groups (l o : List Fld) : Prop where
  rising : Rising o
  names : ∀ c, (∃ f ∈ o, f.1 = c) ↔ ∃ f ∈ l, f.1 = c
  texts : ∀ f ∈ o, f.2 = txtOf l f.1

theorem ltB_ne {a b : ByteArray} (h : ltB a b = true) : a ≠ b := by
  rintro rfl
  rw [ltB_irrefl] at h
  cases h

theorem ltB_lt_le {a b c : ByteArray} (h : ltB a b = true) (k : ltB c b = false) : ltB a c = true := by
  rcases ltB_cases b c with h1 | rfl | h1
  · exact ltB_trans h h1
  · exact h
  · rw [k] at h1; cases h1

theorem Groups.step {l o : List Fld} {f : Fld} (h : Groups l o) (hf : ∀ x ∈ l, ltB f.1 x.1 = false) : Groups (l ++ [f]) (joinStep o f) := by
  obtain ⟨h1, h2, h3⟩ := h
  have hfo : ∀ x ∈ o, ltB f.1 x.1 = false := fun x hx => by
    obtain ⟨y, hy, e⟩ := (h2 x.1).1 ⟨x, hx, rfl⟩
    rw [← e]; exact hf y hy
  rcases List.eq_nil_or_concat o with rfl | ⟨o', g, rfl⟩
  · have hl : l = [] := by
      cases l with
      | nil => rfl
      | cons y l =>
        obtain ⟨z, hz, _⟩ := (h2 y.1).2 ⟨y, by simp, rfl⟩
        simp at hz
    subst hl
    rw [joinStep_nil]
    refine ⟨List.pairwise_singleton _ _, fun c => by simp, fun x hx => ?_⟩
    rw [List.mem_singleton] at hx
    subst hx
    simp [txtOf]
  · rw [List.concat_eq_append] at *
    have hr := List.pairwise_append.1 h1
    have ho' : ∀ x ∈ o', ltB x.1 g.1 = true := fun x hx => hr.2.2 x hx g (by simp)
    have hgf := hfo g (by simp)
    by_cases e : g.1 = f.1
    · rw [joinStep_same _ _ _ e]
      refine ⟨?_, fun c => ?_, fun x hx => ?_⟩
      · refine List.pairwise_append.2 ⟨hr.1, List.pairwise_singleton _ _, fun a ha b hb => ?_⟩
        rw [List.mem_singleton] at hb
        subst hb
        exact ho' a ha
      · have := h2 c
        constructor
        · rintro ⟨x, hx, rfl⟩
          rw [List.mem_append, List.mem_singleton] at hx
          rcases hx with hx | rfl
          · obtain ⟨y, hy, ey⟩ := (h2 x.1).1 ⟨x, by simp [hx], rfl⟩
            exact ⟨y, by simp [hy], ey⟩
          · exact ⟨f, by simp, e.symm⟩
        · rintro ⟨y, hy, rfl⟩
          rw [List.mem_append, List.mem_singleton] at hy
          rcases hy with hy | rfl
          · obtain ⟨x, hx, ex⟩ := this.2 ⟨y, hy, rfl⟩
            rw [List.mem_append, List.mem_singleton] at hx
            rcases hx with hx | rfl
            · exact ⟨x, by simp [hx], ex⟩
            · exact ⟨_, List.mem_append_right _ (List.mem_singleton.2 rfl), ex⟩
          · exact ⟨_, List.mem_append_right _ (List.mem_singleton.2 rfl), e⟩
      · rw [List.mem_append, List.mem_singleton] at hx
        rcases hx with hx | rfl
        · rw [txtOf_snoc, if_neg (fun k => ltB_ne (ho' x hx) (k.symm.trans e.symm)), List.append_nil]
          exact h3 x (by simp [hx])
        · show g.2 ++ f.2 = txtOf (l ++ [f]) g.1
          rw [txtOf_snoc, if_pos e.symm, ← h3 g (by simp)]
    · rw [joinStep_other _ _ _ e]
      have hgf' : ltB g.1 f.1 = true := by
        rcases ltB_cases g.1 f.1 with k | k | k
        · exact k
        · exact absurd k e
        · rw [hgf] at k; cases k
      have hlt : ∀ x ∈ o' ++ [g], ltB x.1 f.1 = true := fun x hx => by
        rw [List.mem_append, List.mem_singleton] at hx
        rcases hx with hx | rfl
        · exact ltB_trans (ho' x hx) hgf'
        · exact hgf'
      refine ⟨?_, fun c => ?_, fun x hx => ?_⟩
      · refine List.pairwise_append.2 ⟨h1, List.pairwise_singleton _ _, fun a ha b hb => ?_⟩
        rw [List.mem_singleton] at hb
        subst hb
        exact hlt a ha
      · constructor
        · rintro ⟨x, hx, rfl⟩
          rw [List.mem_append, List.mem_singleton] at hx
          rcases hx with hx | rfl
          · obtain ⟨y, hy, ey⟩ := (h2 x.1).1 ⟨x, hx, rfl⟩
            exact ⟨y, List.mem_append_left _ hy, ey⟩
          · exact ⟨x, by simp, rfl⟩
        · rintro ⟨y, hy, rfl⟩
          rw [List.mem_append, List.mem_singleton] at hy
          rcases hy with hy | rfl
          · obtain ⟨x, hx, ex⟩ := (h2 y.1).2 ⟨y, hy, rfl⟩
            exact ⟨x, List.mem_append_left _ hx, ex⟩
          · exact ⟨y, by simp, rfl⟩
      · rw [List.mem_append, List.mem_singleton] at hx
        rcases hx with hx | rfl
        · rw [txtOf_snoc, if_neg (fun k => ltB_ne (hlt x hx) k.symm), List.append_nil]
          exact h3 x hx
        · rw [txtOf_snoc, if_pos rfl, txtOf_none, List.nil_append]
          intro y hy k
          obtain ⟨z, hz, ez⟩ := (h2 y.1).2 ⟨y, hy, rfl⟩
          exact ltB_ne (hlt z hz) (ez.trans k)

theorem joinS_groups (l : List Fld) (h : InOrder l) : Groups l (joinS l) := by
  have : ∀ k, k ≤ l.length → Groups (l.take k) (joinS (l.take k)) := by
    intro k
    induction k with
    | zero => intro _; exact ⟨List.Pairwise.nil, fun c => by simp [joinS], fun f hf => by simp [joinS] at hf⟩
    | succ k ih =>
      intro hk
      rw [List.take_succ_eq_append_getElem hk, joinS_snoc]
      refine (ih (by omega)).step fun x hx => ?_
      have h1 : InOrder (l.take (k + 1)) := h.sublist (List.take_sublist _ _)
      rw [List.take_succ_eq_append_getElem hk] at h1
      exact (List.pairwise_append.1 h1).2.2 x hx _ (by simp)
  have := this l.length (Nat.le_refl _)
  rwa [List.take_length] at this

theorem normF_groups (fs : List Fld) : Groups fs (normF fs) := by
  obtain ⟨h1, h2⟩ := sortS_spec fs
  obtain ⟨g1, g2, g3⟩ := joinS_groups _ h1
  have hm : ∀ c, (∃ f ∈ sortS fs, f.1 = c) ↔ ∃ f ∈ fs, f.1 = c := fun c => by
    have e := h2 c
    constructor
    · rintro ⟨f, hf, rfl⟩
      have : f ∈ fs.filter (fun x => decide (x.1 = f.1)) := by rw [← e]; exact List.mem_filter.2 ⟨hf, by simp⟩
      exact ⟨f, (List.mem_filter.1 this).1, rfl⟩
    · rintro ⟨f, hf, rfl⟩
      have : f ∈ (sortS fs).filter (fun x => decide (x.1 = f.1)) := by rw [e]; exact List.mem_filter.2 ⟨hf, by simp⟩
      exact ⟨f, (List.mem_filter.1 this).1, rfl⟩
  refine ⟨g1, fun c => (g2 c).trans (hm c), fun f hf => ?_⟩
  rw [g3 f hf]
  unfold txtOf
  rw [h2]

/-- Groups are one. -/
theorem groups_unique {l o p : List Fld} (h : Groups l o) (k : Groups l p) : o = p := by
  refine order_unique o p (h.rising.imp fun hxy => ltB_asymm hxy) (k.rising.imp fun hxy => ltB_asymm hxy) fun c => ?_
  have one : ∀ {q : List Fld}, Groups l q → q.filter (fun x => decide (x.1 = c)) = if ∃ f ∈ l, f.1 = c then [(c, txtOf l c)] else [] := by
    intro q hq
    split
    · rename_i hex
      obtain ⟨f, hf, rfl⟩ := (hq.names c).2 hex
      obtain ⟨a, b, rfl⟩ := List.append_of_mem hf
      have hr := List.pairwise_append.1 hq.rising
      have hr2 := List.pairwise_cons.1 hr.2.1
      have ha : a.filter (fun x => decide (x.1 = f.1)) = [] := List.filter_eq_nil_iff.2 fun x hx e => ltB_ne (hr.2.2 x hx f (by simp)) (by simpa using e)
      have hb : b.filter (fun x => decide (x.1 = f.1)) = [] := List.filter_eq_nil_iff.2 fun x hx e => ltB_ne (hr2.1 x hx) (Eq.symm (of_decide_eq_true e))
      rw [List.filter_append, ha, List.filter_cons_of_pos (by simp), hb, List.nil_append, ← hq.texts f (by simp)]
    · rename_i hex
      refine List.filter_eq_nil_iff.2 fun x hx e => hex ((hq.names c).1 ⟨x, hx, by simpa using e⟩)
  rw [one h, one k]

/-- The least name above the last one, of these; none: the empty one. -/
def scanStep (last nx : ByteArray) (f : Fld) : ByteArray := if ltB last f.1 && (decide (nx.size = 0) || ltB f.1 nx) then f.1 else nx
def scanN (last : ByteArray) (fs : List Fld) : ByteArray := fs.foldl (scanStep last) ⟨#[]⟩

theorem scanN_snoc (last : ByteArray) (l : List Fld) (f : Fld) : scanN last (l ++ [f]) = scanStep last (scanN last l) f := by simp [scanN]

theorem scan_spec (last : ByteArray) (fs : List Fld) (hne : ∀ f ∈ fs, f.1.size ≠ 0) :
    (scanN last fs = ⟨#[]⟩ ∧ ∀ f ∈ fs, ltB last f.1 = false) ∨ ((scanN last fs).size ≠ 0 ∧ (∃ f ∈ fs, f.1 = scanN last fs) ∧ ltB last (scanN last fs) = true ∧ ∀ g ∈ fs, ltB last g.1 = true → ltB g.1 (scanN last fs) = false) := by
  have : ∀ k, k ≤ fs.length → (scanN last (fs.take k) = ⟨#[]⟩ ∧ ∀ f ∈ fs.take k, ltB last f.1 = false) ∨ ((scanN last (fs.take k)).size ≠ 0 ∧ (∃ f ∈ fs.take k, f.1 = scanN last (fs.take k)) ∧ ltB last (scanN last (fs.take k)) = true ∧ ∀ g ∈ fs.take k, ltB last g.1 = true → ltB g.1 (scanN last (fs.take k)) = false) := by
    intro k
    induction k with
    | zero => intro _; left; exact ⟨rfl, fun f hf => by simp at hf⟩
    | succ k ih =>
      intro hk
      have ih := ih (by omega)
      rw [List.take_succ_eq_append_getElem hk, scanN_snoc]
      have hnf : (fs[k]).1.size ≠ 0 := hne _ (List.getElem_mem hk)
      generalize fs[k] = f at hnf ⊢
      generalize fs.take k = l at ih ⊢
      generalize scanN last l = r at ih ⊢
      unfold scanStep
      cases c1 : ltB last f.1 with
      | false =>
        rw [Bool.false_and, if_neg (by simp)]
        rcases ih with ⟨i1, i2⟩ | ⟨i1, ⟨x, hx, ex⟩, i3, i4⟩
        · left
          refine ⟨i1, fun x hx => ?_⟩
          rw [List.mem_append, List.mem_singleton] at hx
          rcases hx with hx | rfl
          · exact i2 x hx
          · exact c1
        · right
          refine ⟨i1, ⟨x, by simp [hx], ex⟩, i3, fun g hg hl => ?_⟩
          rw [List.mem_append, List.mem_singleton] at hg
          rcases hg with hg | rfl
          · exact i4 g hg hl
          · rw [c1] at hl; cases hl
      | true =>
        rcases ih with ⟨i1, i2⟩ | ⟨i1, ⟨x, hx, ex⟩, i3, i4⟩
        · have : decide (r.size = 0) = true := by rw [i1]; rfl
          rw [this, if_pos (by simp)]
          right
          refine ⟨hnf, ⟨f, by simp, rfl⟩, c1, fun g hg hl => ?_⟩
          rw [List.mem_append, List.mem_singleton] at hg
          rcases hg with hg | rfl
          · rw [i2 g hg] at hl; cases hl
          · exact ltB_irrefl _
        · rw [decide_eq_false i1, Bool.false_or, Bool.true_and]
          right
          cases c2 : ltB f.1 r with
          | true =>
            rw [if_pos rfl]
            refine ⟨hnf, ⟨f, by simp, rfl⟩, c1, fun g hg hl => ?_⟩
            rw [List.mem_append, List.mem_singleton] at hg
            rcases hg with hg | rfl
            · have := i4 g hg hl
              cases c3 : ltB g.1 f.1 with
              | false => rfl
              | true => rw [ltB_trans c3 c2] at this; cases this
            · exact ltB_irrefl _
          | false =>
            rw [if_neg (by simp)]
            refine ⟨i1, ⟨x, by simp [hx], ex⟩, i3, fun g hg hl => ?_⟩
            rw [List.mem_append, List.mem_singleton] at hg
            rcases hg with hg | rfl
            · exact i4 g hg hl
            · exact c2
  have h := this fs.length (Nat.le_refl _)
  rwa [List.take_length] at h

theorem ltB_nil {c : ByteArray} (h : c.size ≠ 0) : ltB ⟨#[]⟩ c = true := by
  rcases ltB_cases ⟨#[]⟩ c with k | k | k
  · exact k
  · rw [← k] at h; exact absurd rfl h
  · unfold ltB at k
    rw [decide_eq_true_iff] at k
    exfalso
    have e : (ByteArray.mk #[]).data.toList = [] := rfl
    rw [e] at k
    cases hc : c.data.toList with
    | nil => rw [hc] at k; simp [Lib.compareBytes] at k
    | cons x l => rw [hc] at k; simp [Lib.compareBytes] at k

/-- The name of the group behind the first k of them. -/
def lastOf (o : List Fld) (k : Nat) : ByteArray := if k = 0 then ⟨#[]⟩ else (o.getD (k - 1) default).1

theorem Rising.get {o : List Fld} (h : Rising o) {i j : Nat} (hij : i < j) (hj : j < o.length) : ltB (o[i]'(by omega)).1 (o[j]).1 = true := by
  exact List.pairwise_iff_getElem.1 h i j (by omega) hj hij

theorem scan_next {fs o : List Fld} (h : Groups fs o) (hne : ∀ f ∈ fs, f.1.size ≠ 0) (k : Nat) (hk : k ≤ o.length) : scanN (lastOf o k) fs = if hlt : k < o.length then (o[k]).1 else ⟨#[]⟩ := by
  have hno : ∀ f ∈ o, f.1.size ≠ 0 := fun f hf => by
    obtain ⟨g, hg, e⟩ := (h.names f.1).1 ⟨f, hf, rfl⟩
    rw [← e]; exact hne g hg
  have hge : ∀ j, (hj : j < o.length) → k ≤ j → ltB (lastOf o k) (o[j]).1 = true := fun j hj hkj => by
    unfold lastOf
    split
    · exact ltB_nil (hno _ (List.getElem_mem hj))
    · rw [List.getD_eq_getElem?_getD, List.getElem?_eq_getElem (show k - 1 < o.length by omega)]
      exact h.rising.get (by omega) hj
  have hlt : ∀ j, (hj : j < o.length) → j < k → ltB (lastOf o k) (o[j]).1 = false := fun j hj hkj => by
    unfold lastOf
    rw [if_neg (by omega), List.getD_eq_getElem?_getD, List.getElem?_eq_getElem (show k - 1 < o.length by omega)]
    show ltB (o[k - 1]).1 (o[j]).1 = false
    by_cases e : j = k - 1
    · subst e; exact ltB_irrefl _
    · exact ltB_asymm (h.rising.get (show j < k - 1 by omega) (by omega))
  rcases scan_spec (lastOf o k) fs hne with ⟨s1, s2⟩ | ⟨s1, ⟨x, hx, ex⟩, s3, s4⟩
  · rw [s1, dif_neg]
    intro hk'
    obtain ⟨y, hy, ey⟩ := (h.names (o[k]).1).1 ⟨_, List.getElem_mem hk', rfl⟩
    have h1 := s2 y hy
    rw [ey, hge k hk' (Nat.le_refl _)] at h1
    cases h1
  · obtain ⟨z, hz, ez⟩ := (h.names x.1).2 ⟨x, hx, rfl⟩
    obtain ⟨j, hj, rfl⟩ := List.mem_iff_getElem.1 hz
    have hjk : k ≤ j := by
      refine Nat.le_of_not_lt fun hjk => ?_
      have h1 := hlt j hj hjk
      rw [ez, ex, s3] at h1
      cases h1
    have hk' : k < o.length := by omega
    rw [dif_pos hk', ← ex, ← ez]
    have h2 : ¬ k < j := fun hkj => by
      obtain ⟨y, hy, ey⟩ := (h.names (o[k]).1).1 ⟨_, List.getElem_mem hk', rfl⟩
      have h1 := s4 y hy (by rw [ey]; exact hge k hk' (Nat.le_refl _))
      rw [ey, ← ex, ← ez, h.rising.get hkj hj] at h1
      cases h1
    obtain rfl : k = j := by omega
    rfl

theorem scan_size {fs o : List Fld} (h : Groups fs o) (hne : ∀ f ∈ fs, f.1.size ≠ 0) {k : Nat} (hk : k < o.length) : (o[k]).1.size ≠ 0 := by
  obtain ⟨g, hg, e⟩ := (h.names (o[k]).1).1 ⟨_, List.getElem_mem hk, rfl⟩
  rw [← e]; exact hne g hg

/-- A group's texts, nine of them at most. -/
def capF (f : Fld) : Fld := (f.1, f.2.take 9)

theorem cap_getD (o : List Fld) (i : Nat) : ((o.map capF).getD i default).1 = (o.getD i default).1 := by
  rw [List.getD_eq_getElem?_getD, List.getD_eq_getElem?_getD, List.getElem?_map]
  cases o[i]? with
  | none => rfl
  | some _ => rfl

theorem cap_id {f : Fld} (h : f.2.length ≤ 8) : capF f = f := by
  unfold capF
  rw [List.take_of_length_le (by omega)]

theorem cap_map {o : List Fld} (h : ∀ f ∈ o, f.2.length ≤ 8) : o.map capF = o := by
  induction o with
  | nil => rfl
  | cons f o ih => rw [List.map_cons, cap_id (h f (by simp)), ih (fun g hg => h g (by simp [hg]))]

theorem cap_may (o : List Fld) : mayB (o.map capF) = mayB o := by
  by_cases hs : ∀ f ∈ o, f.2.length ≤ 8
  · rw [cap_map hs]
  · have hno : ∃ f ∈ o, ¬ f.2.length ≤ 8 := by
      refine Classical.byContradiction fun hc => hs fun f hf => Classical.byContradiction fun hl => hc ⟨f, hf, hl⟩
    obtain ⟨f, hf, hl⟩ := hno
    have e1 : mayB o = false := by
      cases hm : mayB o with
      | false => rfl
      | true => have := (fits_parts (may_fits hm f hf)).2.2.1; omega
    have e2 : mayB (o.map capF) = false := by
      cases hm : mayB (o.map capF) with
      | false => rfl
      | true =>
        have := (fits_parts (may_fits hm (capF f) (List.mem_map.2 ⟨f, hf, rfl⟩))).2.2.1
        simp only [capF, List.length_take] at this
        omega
    rw [e1, e2]

/-- What the reference asks at its end. -/
theorem cap_end (o : List Fld) : (decide (16 < o.length) || !mayB ((o.take 17).map capF)) = !mayB o := by
  by_cases h : 16 < o.length
  · rw [decide_eq_true h, may_long h]; rfl
  · rw [decide_eq_false h, Bool.false_or, List.take_of_length_le (by omega), cap_may]

theorem cap_same {o : List Fld} (h : mayB o = true) : (o.take 17).map capF = o := by
  have := (may_parts h).1
  rw [List.take_of_length_le (by omega), cap_map fun f hf => (fits_parts (may_fits h f hf)).2.2.1]

end Go.Proofs.YtfcjnoojcajljabGreatDoor

/-
  The contract of the reference's Norm.
-/
namespace Go.Proofs.YtfcjnoojcajljabGreatDoor
open Go.RowKit Go.Lib

def RnSt (w : World) (G : List Fld) (k : Nat) (v : Value) (wr : World) : Prop :=
  ∃ dr, OwnXs w.heap.size wr v dr ∧ dr.map Fx.fld = (G.take (min k 17)).map capF ∧ Below w.heap.size w wr

def RnAns (N : Nat) (fs : List Fld) (e : Ending) (w' : World) : Prop :=
  (fs.any misB = true ∧ e = .returned (.tuple #[.slice none 0 0, .int .i64 2])) ∨
    (fs.any misB = false ∧
     (((normF fs).any bareB = true ∧ e = .returned (.tuple #[.slice none 0 0, .int .i64 3])) ∨
      ((normF fs).any bareB = false ∧ mayB (normF fs) = false ∧ e = .returned (.tuple #[.slice none 0 0, .int .i64 5])) ∨
      ((normF fs).any bareB = false ∧ mayB (normF fs) = true ∧ ∃ u o, e = .returned (.tuple #[u, .int .i64 0]) ∧ OwnXs N w' u o ∧ o.map Fx.fld = normF fs)))
def RnPost (w : World) (fs : List Fld) (e : Ending) (w' : World) : Prop := RnAns w.heap.size fs e w' ∧ Below w.heap.size w w'

theorem mem_txtOf {fs : List Fld} {c t : ByteArray} (h : t ∈ txtOf fs c) : ∃ f ∈ fs, t ∈ f.2 := by
  unfold txtOf at h
  obtain ⟨f, hf, ht⟩ := List.mem_flatMap.1 h
  exact ⟨f, (List.mem_filter.1 hf).1, ht⟩

theorem txtOf_len (fs : List Fld) (c : ByteArray) : (txtOf fs c).length ≤ totF fs := by
  unfold txtOf totF
  induction fs with
  | nil => simp
  | cons f fs ih =>
    rw [List.map_cons, List.sum_cons]
    by_cases e : f.1 = c
    · rw [List.filter_cons_of_pos (by simp [e]), List.flatMap_cons, List.length_append]; omega
    · rw [List.filter_cons_of_neg (by simp [e])]; omega

theorem totF_take (fs : List Fld) (i : Nat) : totF (fs.take i) ≤ totF fs := by
  conv => rhs; rw [← List.take_append_drop i fs, totF_append]
  omega

theorem txtOf_step {d : List Fx} {i : Nat} (h : i < d.length) (c : ByteArray) : txtOf ((d.map Fx.fld).take (i + 1)) c = txtOf ((d.map Fx.fld).take i) c ++ if (d[i]).name = c then (d[i]).txt else [] := by
  rw [List.take_succ_eq_append_getElem (by simpa using h), txtOf_snoc]
  simp [Fx.fld]

theorem scanN_step {d : List Fx} {i : Nat} (h : i < d.length) (last : ByteArray) : scanN last ((d.map Fx.fld).take (i + 1)) =
    if ltB last (d[i]).name && (decide ((scanN last ((d.map Fx.fld).take i)).size = 0) || ltB (d[i]).name (scanN last ((d.map Fx.fld).take i))) then (d[i]).name else scanN last ((d.map Fx.fld).take i) := by
  rw [List.take_succ_eq_append_getElem (by simpa using h), scanN_snoc]
  simp [scanStep, Fx.fld]

theorem mis_all {d : List Fx} (h : ∀ j, (h : j < d.length) → fieldB (d[j]).name.data.toList = true) : (d.map Fx.fld).any misB = false := by
  rw [List.any_eq_false]
  intro f hf
  obtain ⟨x, hx, rfl⟩ := List.mem_map.1 hf
  obtain ⟨j, hj, rfl⟩ := List.mem_iff_getElem.1 hx
  have := h j hj
  simp [misB, Fx.fld, this]

theorem field_ne {l : ByteArray} (h : fieldB l.data.toList = true) : l.size ≠ 0 := by
  intro e
  have : l.data.toList = [] := List.length_eq_zero_iff.1 (by simpa using e)
  rw [this] at h
  revert h
  decide

theorem take9_more {T a b : List ByteArray} (h : 9 ≤ (T ++ a).length) : (T ++ (a ++ b)).take 9 = (T ++ a).take 9 := by
  rw [← List.append_assoc, List.take_append_of_le_length h]

theorem any_snoc {G : List Fld} {k : Nat} (h : k < G.length) : (G.take (k + 1)).any bareB = ((G.take k).any bareB || bareB G[k]) := by
  rw [List.take_succ_eq_append_getElem h, List.any_append]
  simp

theorem cap_snoc {G : List Fld} {k : Nat} (h : k < G.length) (hk : k < 17) : (G.take (min (k + 1) 17)).map capF = (G.take (min k 17)).map capF ++ [capF G[k]] := by
  rw [Nat.min_eq_left (by omega), Nat.min_eq_left (by omega), List.take_succ_eq_append_getElem h, List.map_append]
  rfl

theorem lastOf_succ {G : List Fld} {k : Nat} (h : k < G.length) : lastOf G (k + 1) = (G[k]).1 := by
  unfold lastOf
  rw [if_neg (by omega), Nat.add_sub_cancel, List.getD_eq_getElem?_getD, List.getElem?_eq_getElem h]
  rfl

/-- What the reference holds at its end is small. -/
theorem rn_fit {d dr : List Fx} {k : Nat} (hf : FitX d) (h : dr.map Fx.fld = ((normF (d.map Fx.fld)).take (min k 17)).map capF) : FitX dr := by
  have hg := normF_groups (d.map Fx.fld)
  have hl : dr.length ≤ 17 := by
    have := congrArg List.length h
    rw [List.length_map, List.length_map, List.length_take] at this
    omega
  refine ⟨by unfold maxLen; omega, fun x hx => ?_⟩
  have hm : x.fld ∈ ((normF (d.map Fx.fld)).take (min k 17)).map capF := by rw [← h]; exact List.mem_map.2 ⟨x, hx, rfl⟩
  obtain ⟨g, hgm, e⟩ := List.mem_map.1 hm
  have hgm := List.mem_of_mem_take hgm
  have e1 : x.name = g.1 := (congrArg Prod.fst e).symm
  have e2 : x.txt = g.2.take 9 := (congrArg Prod.snd e).symm
  obtain ⟨f, hfm, ef⟩ := (hg.names g.1).1 ⟨g, hgm, rfl⟩
  obtain ⟨y, hy, rfl⟩ := List.mem_map.1 hfm
  refine ⟨?_, ?_, fun t ht => ?_⟩
  · show x.name.size ≤ maxLen
    rw [e1, ← ef]; exact (hf.2 y hy).1
  · show x.txt.length ≤ maxLen
    rw [e2, List.length_take]; unfold maxLen; omega
  · have ht : t ∈ x.txt := ht
    rw [e2] at ht
    have ht := List.mem_of_mem_take ht
    rw [hg.texts g hgm] at ht
    obtain ⟨f', hf', ht'⟩ := mem_txtOf ht
    obtain ⟨z, hz, rfl⟩ := List.mem_map.1 hf'
    exact (hf.2 z hz).2.2 t ht'

end Go.Proofs.YtfcjnoojcajljabGreatDoor

/-
  The contract of the reference's Norm: the walk.
-/
namespace Go.Proofs.YtfcjnoojcajljabGreatDoor
open Go.RowKit Go.Lib

theorem less_of {a b : ByteArray} {c : Bool} (h : ltB a b = c) : Op.bytesLess a.toList b.toList = c := by
  rw [← h, ← ltN_eq]; rfl

theorem eq_false {a b : ByteArray} (h : a ≠ b) : (a.toList == b.toList) = false := by
  rw [Lib.toList_data, Lib.toList_data, beq_eq_false_iff_ne]
  exact fun e => h (ba_eq e)
theorem eq_true {a b : ByteArray} (h : a = b) : (a.toList == b.toList) = true := by rw [h]; simp

theorem empty_of {a : ByteArray} (h : a.size = 0) : a.toList.isEmpty = true := by
  rw [Lib.toList_data]
  have : a.data.toList = [] := List.length_eq_zero_iff.1 (by simpa using h)
  rw [this]; rfl
theorem nonempty_of {a : ByteArray} (h : a.size ≠ 0) : a.toList.isEmpty = false := by
  rw [Lib.toList_data]
  cases e : a.data.toList with
  | nil => exact absurd (by simpa using congrArg List.length e) h
  | cons _ _ => rfl

end Go.Proofs.YtfcjnoojcajljabGreatDoor

/-
  What Norm answers, by the fields alone: the program's and the reference's.
-/
namespace Go.Proofs.YtfcjnoojcajljabGreatDoor
open Go.RowKit Go.Lib

/-- What Norm answers: the number, and the fields. -/
def codeF (fs : List Fld) : Int := if fs.any misB then 2 else if (normF fs).any bareB then 3 else if mayB (normF fs) then 0 else 5
def ansF (fs : List Fld) : List Fld := if codeF fs = 0 then normF fs else []

theorem codeF_zero {fs : List Fld} (h : codeF fs = 0) : fs.any misB = false ∧ (normF fs).any bareB = false ∧ mayB (normF fs) = true := by
  unfold codeF at h
  cases h1 : fs.any misB with
  | true => rw [h1] at h; simp at h
  | false =>
    cases h2 : (normF fs).any bareB with
    | true => rw [h1, h2] at h; simp at h
    | false =>
      cases h3 : mayB (normF fs) with
      | true => exact ⟨rfl, rfl, rfl⟩
      | false => rw [h1, h2, h3] at h; simp at h

theorem may_fit {d : List Fx} {fs : List Fld} (hmay : mayB fs = true) (hm : d.map Fx.fld = fs) : FitX d := by
  have hl := (may_parts hmay).1
  refine ⟨?_, fun x hx => ?_⟩
  · rw [← hm, List.length_map] at hl
    unfold maxLen; omega
  · have hx' : x.fld ∈ fs := by rw [← hm]; exact List.mem_map.2 ⟨x, hx, rfl⟩
    obtain ⟨h1, _, h3, h4, _⟩ := fits_parts (may_fits hmay _ hx')
    refine ⟨?_, ?_, fun t ht => ?_⟩
    · unfold maxLen; omega
    · unfold maxLen; omega
    · have := h4 t ht; unfold maxLen; omega

theorem ans_fit {d : List Fx} {fs : List Fld} (hm : d.map Fx.fld = ansF fs) : FitX d := by
  unfold ansF at hm
  split at hm
  · rename_i h
    exact may_fit (codeF_zero h).2.2 hm
  · rw [List.map_eq_nil_iff] at hm
    subst hm
    exact ⟨by unfold maxLen; simp, fun x hx => by simp at hx⟩

def NPost (w : World) (fs : List Fld) (e : Ending) (w' : World) : Prop :=
  (∃ u o, e = .returned (.tuple #[u, .int .i64 (codeF fs)]) ∧ OwnXs w.heap.size w' u o ∧ o.map Fx.fld = ansF fs) ∧ Below w.heap.size w w'

theorem own_none (N : Nat) (w : World) : OwnXs N w (.slice none 0 0) [] := ⟨World.ownsRow_nil _ _ _ _, fun x hx => by simp at hx⟩

theorem ansPlain {N : Nat} {fs : List Fld} {e : Ending} {w' : World}
    (h : (fs.any misB = true ∧ e = .returned (.tuple #[.slice none 0 0, .int .i64 2])) ∨
    (fs.any misB = false ∧
     (((normF fs).any bareB = true ∧ e = .returned (.tuple #[.slice none 0 0, .int .i64 3])) ∨
      ((normF fs).any bareB = false ∧ mayB (normF fs) = false ∧ e = .returned (.tuple #[.slice none 0 0, .int .i64 5])) ∨
      ((normF fs).any bareB = false ∧ mayB (normF fs) = true ∧ ∃ u o, e = .returned (.tuple #[u, .int .i64 0]) ∧ OwnXs N w' u o ∧ o.map Fx.fld = normF fs)))) :
    ∃ u o, e = .returned (.tuple #[u, .int .i64 (codeF fs)]) ∧ OwnXs N w' u o ∧ o.map Fx.fld = ansF fs := by
  rcases h with ⟨h1, rfl⟩ | ⟨h1, ⟨h2, rfl⟩ | ⟨h2, h3, rfl⟩ | ⟨h2, h3, u, o, rfl, ho, hm⟩⟩
  · have hc : codeF fs = 2 := by unfold codeF; rw [h1]; rfl
    exact ⟨_, [], by rw [hc], own_none _ _, by unfold ansF; rw [hc]; rfl⟩
  · have hc : codeF fs = 3 := by unfold codeF; rw [h1, h2]; rfl
    exact ⟨_, [], by rw [hc], own_none _ _, by unfold ansF; rw [hc]; rfl⟩
  · have hc : codeF fs = 5 := by unfold codeF; rw [h1, h2, h3]; rfl
    exact ⟨_, [], by rw [hc], own_none _ _, by unfold ansF; rw [hc]; rfl⟩
  · have hc : codeF fs = 0 := by unfold codeF; rw [h1, h2, h3]; rfl
    exact ⟨u, o, by rw [hc], ho, by unfold ansF; rw [hc]; exact hm⟩

end Go.Proofs.YtfcjnoojcajljabGreatDoor

/-
  ValueNorms answers true, where the fields and their texts are few enough to be copied.
-/
namespace Go.Proofs.YtfcjnoojcajljabGreatDoor
open Go.RowKit Go.Lib

theorem bool_same (b : Bool) : (b == b) = true := by cases b <;> rfl

end Go.Proofs.YtfcjnoojcajljabGreatDoor

/-
  The contract of the reference's Read.
-/
namespace Go.Proofs.YtfcjnoojcajljabGreatDoor
open Go.RowKit

theorem firstP_plain {c : UInt8} {r : List UInt8} (h : plainB (c.toNat : Int) = true) : firstP (c :: r) = some (c, 1) := by
  simp [firstP, h]
theorem firstP_sign {c : UInt8} {r : List UInt8} (h : plainB (c.toNat : Int) = false) (h2 : c ≠ 37) : firstP (c :: r) = none := by
  simp [firstP, h, h2]
theorem pct_plain : plainB 37 = false := by decide
theorem firstP_short {r : List UInt8} (h : r.length < 2) : firstP (37 :: r) = none := by
  match r, h with
  | [], _ => simp [firstP, pct_plain]
  | [_], _ => simp [firstP, pct_plain]
theorem firstP_hex {a b : UInt8} {r : List UInt8} : firstP (37 :: a :: b :: r) = if hexN a = 16 ∨ hexN b = 16 then none else if plainB ((UInt8.ofNat (16 * hexN a + hexN b)).toNat : Int) then none else some (UInt8.ofNat (16 * hexN a + hexN b), 3) := by
  have e : firstP (37 :: a :: b :: r) = if hexv a < 0 ∨ hexv b < 0 then none else
      if plainB ((UInt8.ofNat (16 * (hexv a).toNat + (hexv b).toNat)).toNat : Int) then none else some (UInt8.ofNat (16 * (hexv a).toNat + (hexv b).toNat), 3) := by
    simp [firstP, pct_plain]
  rw [e, hexN_eq a, hexN_eq b]
  by_cases ha : hexN a = 16
  · rw [if_pos (Or.inl (by rw [if_pos ha]; decide)), if_pos (Or.inl ha)]
  · by_cases hb : hexN b = 16
    · rw [if_pos (Or.inr (by rw [if_pos hb]; decide)), if_pos (Or.inr hb)]
    · rw [if_neg (show ¬ (hexN a = 16 ∨ hexN b = 16) by omega), if_neg (show ¬ ((if hexN a = 16 then (-1 : Int) else (hexN a : Int)) < 0 ∨ (if hexN b = 16 then (-1 : Int) else (hexN b : Int)) < 0) by rw [if_neg ha, if_neg hb]; omega), if_neg ha, if_neg hb, Int.toNat_natCast, Int.toNat_natCast]

theorem drop_at (s : ByteArray) (i : Nat) (h : i < s.size) : s.data.toList.drop i = s[i] :: s.data.toList.drop (i + 1) := by
  rw [List.drop_eq_getElem_cons (by simpa using h)]
  rfl

def RrSt (w : World) (s : ByteArray) (i : Nat) (vb : Value) (wr : World) : Prop :=
  ∃ acc, OwnB w.heap.size wr vb acc ∧ acc.length ≤ i ∧ readL s.data.toList = (readL (s.data.toList.drop i)).map (acc ++ ·) ∧ Below w.heap.size w wr

theorem rr_next {s : ByteArray} {i n : Nat} {c : UInt8} {acc : List UInt8} (h : readL s.data.toList = (readL (s.data.toList.drop i)).map (acc ++ ·)) (hf : firstP (s.data.toList.drop i) = some (c, n)) :
    readL s.data.toList = (readL (s.data.toList.drop (i + n))).map ((acc ++ [c]) ++ ·) := by
  rw [h, readL_some hf, List.drop_drop, Option.map_map]
  congr 1
  funext x
  simp

theorem rr_no {s : ByteArray} {i : Nat} {acc : List UInt8} (hi : i < s.size) (h : readL s.data.toList = (readL (s.data.toList.drop i)).map (acc ++ ·)) (hf : firstP (s.data.toList.drop i) = none) : readL s.data.toList = none := by
  rw [h, readL_none (by rw [drop_at s i hi]; simp) hf]
  rfl

end Go.Proofs.YtfcjnoojcajljabGreatDoor

/-
  ValueTexts answers true, where each text is short enough to be written.
-/
namespace Go.Proofs.YtfcjnoojcajljabGreatDoor
open Go.RowKit

theorem hexd_table : ((List.range 16).all fun k => decide (hexN (hexd k) = k)) = true := by decide
theorem hexN_hexd {k : Nat} (h : k < 16) : hexN (hexd k) = k := by
  have := List.all_eq_true.1 hexd_table k (List.mem_range.2 h)
  exact of_decide_eq_true this

theorem hexd_hexN {c : UInt8} (h : hexN c ≠ 16) : hexd (hexN c) = c := by
  rcases hexv_cases c with h1 | ⟨k, hk, _, rfl⟩
  · rw [hexN_eq, if_neg h] at h1
    omega
  · rw [hexN_hexd hk]

theorem read_write (l : List UInt8) : readL (writeL l) = some l := by
  induction l with
  | nil => exact readL_nil
  | cons c l ih =>
    rw [writeL_cons]
    cases hp : plainB (c.toNat : Int) with
    | true =>
      have e : writeC c = [c] := by unfold writeC; rw [if_pos hp]
      rw [e, List.cons_append, List.nil_append, readL_some (firstP_plain hp)]
      show (readL (writeL l)).map _ = _
      rw [ih]; rfl
    | false =>
      have e : writeC c = [37, hexd (c.toNat / 16), hexd (c.toNat % 16)] := by unfold writeC; rw [hp]; rfl
      have hc := c.toNat_lt
      have h1 : hexN (hexd (c.toNat / 16)) = c.toNat / 16 := hexN_hexd (by omega)
      have h2 : hexN (hexd (c.toNat % 16)) = c.toNat % 16 := hexN_hexd (by omega)
      have hs : UInt8.ofNat (16 * (c.toNat / 16) + c.toNat % 16) = c := by
        rw [show 16 * (c.toNat / 16) + c.toNat % 16 = c.toNat by omega, UInt8.ofNat_toNat]
      have hf : firstP (37 :: hexd (c.toNat / 16) :: hexd (c.toNat % 16) :: writeL l) = some (c, 3) := by
        rw [firstP_hex, h1, h2, if_neg (by omega), hs, if_neg (by rw [hp]; simp)]
      rw [e]
      show readL (37 :: hexd (c.toNat / 16) :: hexd (c.toNat % 16) :: writeL l) = _
      rw [readL_some hf]
      show (readL (writeL l)).map _ = _
      rw [ih]; rfl

theorem firstP_write {l : List UInt8} {c : UInt8} {n : Nat} (h : firstP l = some (c, n)) : writeC c = l.take n ∧ 0 < n := by
  cases l with
  | nil => cases h
  | cons x r =>
    cases hp : plainB (x.toNat : Int) with
    | true =>
      rw [firstP_plain hp] at h
      cases h
      refine ⟨?_, by omega⟩
      unfold writeC
      rw [if_pos hp]
      rfl
    | false =>
      by_cases hx : x = 37
      · subst hx
        match r, h with
        | [], h => rw [firstP_short (by simp)] at h; cases h
        | [_], h => rw [firstP_short (by simp)] at h; cases h
        | a :: b :: r, h =>
          rw [firstP_hex] at h
          by_cases h1 : hexN a = 16 ∨ hexN b = 16
          · rw [if_pos h1] at h; cases h
          · rw [if_neg h1] at h
            have ha := hexN_le a
            have hb := hexN_le b
            cases hq : plainB ((UInt8.ofNat (16 * hexN a + hexN b)).toNat : Int) with
            | true => rw [if_pos hq] at h; cases h
            | false =>
              rw [if_neg (by rw [hq]; simp)] at h
              cases h
              refine ⟨?_, by omega⟩
              unfold writeC
              rw [hq]
              have e : (UInt8.ofNat (16 * hexN a + hexN b)).toNat = 16 * hexN a + hexN b := by rw [UInt8.toNat_ofNat']; omega
              rw [e, show (16 * hexN a + hexN b) / 16 = hexN a by omega, show (16 * hexN a + hexN b) % 16 = hexN b by omega, hexd_hexN (by omega), hexd_hexN (by omega)]
              rfl
      · rw [firstP_sign hp hx] at h; cases h

theorem write_read : ∀ (k : Nat) (l m : List UInt8), l.length ≤ k → readL l = some m → writeL m = l
  | 0, l, m, hl, h => by
    obtain rfl := List.length_eq_zero_iff.1 (by omega : l.length = 0)
    rw [readL_nil] at h; cases h; rfl
  | k + 1, l, m, hl, h => by
    by_cases h0 : l = []
    · subst h0; rw [readL_nil] at h; cases h; rfl
    · cases hf : firstP l with
      | none => rw [readL_none h0 hf] at h; cases h
      | some x =>
        obtain ⟨c, n⟩ := x
        rw [readL_some hf] at h
        cases hr : readL (l.drop n) with
        | none => rw [hr] at h; cases h
        | some m' =>
          rw [hr] at h
          cases h
          obtain ⟨h1, h2⟩ := firstP_write hf
          have hlen : l.length ≠ 0 := fun e => h0 (List.length_eq_zero_iff.1 e)
          have := write_read k (l.drop n) m' (by rw [List.length_drop]; omega) hr
          show writeL (c :: m') = l
          rw [writeL_cons, this, h1, List.take_append_drop]

theorem read_back (t : ByteArray) (w : World) (hp : PlainAt w) (hs : t.size ≤ 46912496118442) :
    Calls Tryz.prog 39 #[.string ⟨(writeL t.data.toList).toArray⟩] w fun e w' => e = .returned (.tuple #[.string t, .int .i64 0]) ∧ Below w.heap.size w w' := by
  have hl := writeL_len t.data.toList
  have := read_any ⟨(writeL t.data.toList).toArray⟩ w hp (by
    show (writeL t.data.toList).toArray.size ≤ _
    simp at hl ⊢
    omega)
  rw [show (ByteArray.mk (writeL t.data.toList).toArray).data.toList = writeL t.data.toList by simp, read_write] at this
  have e : (⟨t.data.toList.toArray⟩ : ByteArray) = t := by obtain ⟨⟨l⟩⟩ := t; rfl
  simp only [readV, e] at this
  exact this

theorem write_back (t : ByteArray) (m : List UInt8) (w : World) (hp : PlainAt w) (hs : t.size ≤ 46912496118442) (h : readL t.data.toList = some m) :
    Calls Tryz.prog 40 #[.string ⟨m.toArray⟩] w fun e w' => e = .returned (.string t) ∧ Below w.heap.size w w' := by
  have hl := readL_len _ _ _ (Nat.le_refl _) h
  have := write_any ⟨m.toArray⟩ w hp (by
    show m.toArray.size ≤ _
    simp at hl ⊢
    omega)
  rw [show (ByteArray.mk m.toArray).data.toList = m by simp, write_read _ _ _ (Nat.le_refl _) h] at this
  have e : (⟨t.data.toList.toArray⟩ : ByteArray) = t := by obtain ⟨⟨l⟩⟩ := t; rfl
  rw [e] at this
  exact this

end Go.Proofs.YtfcjnoojcajljabGreatDoor

/-
  A value's line is read back as the value.
-/
namespace Go.Proofs.YtfcjnoojcajljabGreatDoor
open Go.RowKit Go.Lib

theorem ix_here {a b : List UInt8} {c : UInt8} (h : c ∉ a) : Lib.indexByte (a ++ c :: b) c = (a.length : Int) := by
  rcases ix_cases (a ++ c :: b) c with ⟨_, h2⟩ | ⟨i, h1, h2, h3, h4⟩
  · exact absurd (by simp) h2
  · have h5 := ix_split _ c i h2 h3
    have := (ix_uniq h5 h h4).1
    rw [h1, this, List.length_take]
    omega

theorem ix_none {a : List UInt8} {c : UInt8} (h : c ∉ a) : Lib.indexByte a c = -1 := by
  rcases ix_cases a c with ⟨h1, _⟩ | ⟨i, _, h2, h3, _⟩
  · exact h1
  · exact absurd (List.mem_of_getElem? h3) h

theorem split_join : ∀ ws : List (List UInt8), ws ≠ [] → (∀ w ∈ ws, (32 : UInt8) ∉ w) → splitL (Lib.join ws [32]) = ws
  | [], h, _ => absurd rfl h
  | [w], _, h => by
    rw [Lib.join_one]
    exact splitL_no (ix_none (h w (by simp)))
  | w :: v :: ws, _, h => by
    have ih := split_join (v :: ws) (by simp) (fun x hx => h x (by simp [hx]))
    rw [join_two, splitL_yes (ix_here (h w (by simp)))]
    rw [List.take_left' rfl]
    congr 1
    rw [show w ++ 32 :: Lib.join (v :: ws) [32] = (w ++ [32]) ++ Lib.join (v :: ws) [32] by simp, List.drop_left' (by simp)]
    exact ih

theorem noblank_mem {l : List UInt8} (h : blanks l = 0) : (32 : UInt8) ∉ l := by
  intro hm
  have := List.countP_eq_zero.1 h 32 hm
  simp at this

theorem field_noeq {l : List UInt8} (h : fieldB l = true) : (61 : UInt8) ∉ l := by
  intro hc
  unfold fieldB spell at h
  cases l with
  | nil => simp at hc
  | cons x r =>
    simp only [Bool.and_eq_true, List.all_eq_true] at h
    have key : lodB ((61 : UInt8).toNat : Int) = true ∨ smallB ((61 : UInt8).toNat : Int) = true := by
      rcases List.mem_cons.1 hc with e | hc
      · exact Or.inr (by rw [e]; exact h.1.2)
      · exact Or.inl (h.2 _ hc)
    rcases key with k | k
    · revert k; decide
    · revert k; decide

theorem word_back {n t : ByteArray} (h : fieldB n.data.toList = true) : wordO (wordOf n t).data.toList = some (n.data.toList, t.data.toList) := by
  rw [word_data, List.append_assoc, List.singleton_append]
  have e := ix_here (b := writeL t.data.toList) (field_noeq h)
  unfold wordO
  rw [e, if_neg (by omega), Int.toNat_natCast, List.take_left' rfl]
  rw [show n.data.toList ++ 61 :: writeL t.data.toList = (n.data.toList ++ [61]) ++ writeL t.data.toList by simp, List.drop_left' (by simp), read_write]
  rfl

/-- Each text a field by itself. -/
def singles (fs : List Fld) : List Fld := fs.flatMap fun f => f.2.map fun t => (f.1, [t])

theorem ba_back (b : ByteArray) : (⟨b.data.toList.toArray⟩ : ByteArray) = b := by obtain ⟨⟨l⟩⟩ := b; rfl

theorem words_back (fs : List Fld) (h : ∀ f ∈ fs, fieldB f.1.data.toList = true) : fieldsW ((wordsL fs).map (·.data.toList)) = some (singles fs) := by
  induction fs with
  | nil => rfl
  | cons f fs ih =>
    have hf := h f (by simp)
    have ih := ih fun g hg => h g (by simp [hg])
    have e1 : fieldsW ((wordsF f).map (·.data.toList)) = some (f.2.map fun t => (f.1, [t])) := by
      unfold wordsF
      generalize f.2 = ts
      induction ts with
      | nil => rfl
      | cons t ts iht =>
        simp only [List.map_cons, fieldsW]
        rw [word_back hf]
        simp only
        rw [iht, ba_back, ba_back]
        rfl
    unfold wordsL at ih ⊢
    rw [List.flatMap_cons, List.map_append, fieldsW_append, e1, ih]
    rfl

theorem single_filter (f : Fld) (c : ByteArray) : ((f.2.map fun t => ((f.1, [t]) : Fld)).filter fun x => decide (x.1 = c)).flatMap (·.2) = if f.1 = c then f.2 else [] := by
  obtain ⟨n, ts⟩ := f
  simp only
  by_cases e : n = c
  · rw [if_pos e, List.filter_eq_self.2 (fun x hx => by obtain ⟨t, _, rfl⟩ := List.mem_map.1 hx; simp [e])]
    induction ts with
    | nil => rfl
    | cons t ts ih => rw [List.map_cons, List.flatMap_cons, ih]; rfl
  · rw [if_neg e, List.filter_eq_nil_iff.2 (fun x hx => by obtain ⟨t, _, rfl⟩ := List.mem_map.1 hx; simp [e])]
    rfl

theorem txt_singles (fs : List Fld) (c : ByteArray) : txtOf (singles fs) c = txtOf fs c := by
  induction fs with
  | nil => rfl
  | cons f fs ih =>
    unfold txtOf singles at *
    rw [List.flatMap_cons, List.filter_append, List.flatMap_append, single_filter, ih]
    by_cases e : f.1 = c
    · rw [if_pos e, List.filter_cons_of_pos (by simp [e]), List.flatMap_cons]
    · rw [if_neg e, List.filter_cons_of_neg (by simp [e]), List.nil_append]

theorem may_rising {fs : List Fld} (h : mayB fs = true) : Rising fs := by
  have hs := (may_parts h).2
  have step : ∀ i, (hi : i + 1 < fs.length) → ltB (fs[i]).1 (fs[i + 1]).1 = true := fun i hi => by
    have := hs (i + 1) hi
    unfold stepOk at this
    rw [Bool.and_eq_true, Bool.or_eq_true] at this
    rcases this.2 with h | h
    · have := of_decide_eq_true h; omega
    · rw [ltN_eq, Nat.add_sub_cancel, List.getD_eq_getElem?_getD, List.getD_eq_getElem?_getD, List.getElem?_eq_getElem hi, List.getElem?_eq_getElem (show i < fs.length by omega)] at h
      exact h
  refine List.pairwise_iff_getElem.2 fun i j hi hj hij => ?_
  induction j with
  | zero => omega
  | succ j ih =>
    by_cases e : i = j
    · subst e; exact step i hj
    · exact ltB_trans (ih (by omega) (by omega)) (step j hj)

theorem rising_txt {fs : List Fld} (h : Rising fs) : ∀ f ∈ fs, f.2 = txtOf fs f.1 := by
  intro f hf
  obtain ⟨a, b, rfl⟩ := List.append_of_mem hf
  have hr := List.pairwise_append.1 h
  have hr2 := List.pairwise_cons.1 hr.2.1
  have ha : a.filter (fun x => decide (x.1 = f.1)) = [] := List.filter_eq_nil_iff.2 fun x hx e => ltB_ne (hr.2.2 x hx f (by simp)) (by simpa using e)
  have hb : b.filter (fun x => decide (x.1 = f.1)) = [] := List.filter_eq_nil_iff.2 fun x hx e => ltB_ne (hr2.1 x hx) (Eq.symm (of_decide_eq_true e))
  unfold txtOf
  rw [List.filter_append, ha, List.filter_cons_of_pos (by simp), hb]
  simp

theorem groups_self {fs : List Fld} (h : Rising fs) : Groups fs fs := ⟨h, fun _ => Iff.rfl, rising_txt h⟩

theorem groups_singles {fs : List Fld} (h : Rising fs) (hne : ∀ f ∈ fs, f.2 ≠ []) : Groups (singles fs) fs := by
  refine ⟨h, fun c => ⟨?_, ?_⟩, fun f hf => ?_⟩
  · rintro ⟨f, hf, rfl⟩
    cases ht : f.2 with
    | nil => exact absurd ht (hne f hf)
    | cons t ts => exact ⟨(f.1, [t]), List.mem_flatMap.2 ⟨f, hf, List.mem_map.2 ⟨t, by rw [ht]; simp, rfl⟩⟩, rfl⟩
  · rintro ⟨x, hx, rfl⟩
    obtain ⟨f, hf, hx⟩ := List.mem_flatMap.1 hx
    obtain ⟨t, _, rfl⟩ := List.mem_map.1 hx
    exact ⟨f, hf, rfl⟩
  · rw [txt_singles]; exact rising_txt h f hf

theorem fits_ne {f : Fld} (h : fitsB f = true) : f.2 ≠ [] := fun e => by
  have := (fits_parts h).2.1
  rw [e] at this; simp at this

theorem may_nobare {fs : List Fld} (h : mayB fs = true) : fs.any bareB = false := by
  rw [List.any_eq_false]
  intro f hf hb
  exact fits_ne (may_fits h f hf) (List.isEmpty_iff.1 hb)

/-- Words, or none of the empty text. -/
def fieldsP (l : List UInt8) : Option (List Fld) := if l = [] then some [] else fieldsW (splitL l)
def codeP (l : List UInt8) : Int := match fieldsP l with
  | none => 4
  | some fs => codeF fs
def ansP (l : List UInt8) : List Fld := match fieldsP l with
  | none => []
  | some fs => ansF fs

theorem norm_singles {fs : List Fld} (h : mayB fs = true) : codeF (singles fs) = 0 ∧ ansF (singles fs) = fs := by
  have hn : normF (singles fs) = fs := groups_unique (normF_groups _) (groups_singles (may_rising h) fun f hf => fits_ne (may_fits h f hf))
  have hm : (singles fs).any misB = false := by
    rw [List.any_eq_false]
    intro x hx
    obtain ⟨f, hf, hx⟩ := List.mem_flatMap.1 hx
    obtain ⟨t, _, rfl⟩ := List.mem_map.1 hx
    have := (fits_parts (may_fits h f hf)).2.2.2.2
    simp [misB, this]
  have hc : codeF (singles fs) = 0 := by unfold codeF; rw [hm, hn, may_nobare h, h]; rfl
  exact ⟨hc, by unfold ansF; rw [hc, hn]; rfl⟩

theorem line_back {fs : List Fld} (h : mayB fs = true) : codeP (lineOf fs).data.toList = 0 ∧ ansP (lineOf fs).data.toList = fs := by
  have e0 : (lineOf fs).data.toList = Lib.join ((wordsL fs).map (·.data.toList)) [32] := by
    show (Lib.join ((wordsL fs).map (·.data.toList)) [32]).toArray.toList = _
    rw [List.toList_toArray]
  have hp : fieldsP (lineOf fs).data.toList = some (singles fs) := by
    unfold fieldsP
    by_cases hl : (lineOf fs).data.toList = []
    · rw [if_pos hl]
      have h0 : (lineOf fs).size = 0 := by
        have := congrArg List.length hl
        simpa using this
      have h1 := (line_empty fs).1 h0
      have h2 : fs = [] := by
        cases fs with
        | nil => rfl
        | cons f fs =>
          have := (fits_parts (may_fits h f (by simp))).2.1
          simp only [totF, List.map_cons, List.sum_cons] at h1
          omega
      subst h2
      rfl
    · rw [if_neg hl, e0, split_join]
      · exact words_back fs fun f hf => (fits_parts (may_fits h f hf)).2.2.2.2
      · intro e
        rw [e0, e] at hl
        exact hl rfl
      · intro w hw
        obtain ⟨x, hx, rfl⟩ := List.mem_map.1 hw
        obtain ⟨f, hf, hx⟩ := List.mem_flatMap.1 hx
        obtain ⟨t, _, rfl⟩ := List.mem_map.1 hx
        exact noblank_mem (word_noblank (fits_parts (may_fits h f hf)).2.2.2.2)
  unfold codeP ansP
  rw [hp]
  exact norm_singles h

theorem codeF_nil : codeF [] = 0 := by decide
theorem ansF_nil : ansF [] = [] := by decide

def PPost (w : World) (l : List UInt8) (e : Ending) (w' : World) : Prop :=
  (∃ u o, e = .returned (.tuple #[u, .int .i64 (codeP l)]) ∧ OwnXs w.heap.size w' u o ∧ o.map Fx.fld = ansP l) ∧ Below w.heap.size w w'

theorem ansP_fit {d : List Fx} {l : List UInt8} (hm : d.map Fx.fld = ansP l) : FitX d := by
  unfold ansP at hm
  cases h : fieldsP l with
  | none =>
    rw [h] at hm
    rw [List.map_eq_nil_iff] at hm
    subst hm
    exact ⟨by unfold maxLen; simp, fun x hx => by simp at hx⟩
  | some fs => rw [h] at hm; exact ans_fit hm

end Go.Proofs.YtfcjnoojcajljabGreatDoor

/-
  The contracts of the reference's Words, ParseWords and Parse.
-/
namespace Go.Proofs.YtfcjnoojcajljabGreatDoor
open Go.RowKit Go.Lib

def wordsAns (l : List UInt8) : List (List UInt8) := if l = [] then [] else splitL l

def WdPost (w : World) (l : List UInt8) (e : Ending) (w' : World) : Prop :=
  (∃ v ws, e = .returned v ∧ OwnT w.heap.size w' v ws ∧ ws.map (·.data.toList) = wordsAns l ∧ ws.length ≤ l.length + 1 ∧ ∀ x ∈ ws, x.size ≤ l.length) ∧ Below w.heap.size w w'

def WdSt (w : World) (s : ByteArray) (i f : Nat) (v : Value) (wr : World) : Prop :=
  ∃ ws : List ByteArray, OwnT w.heap.size wr v ws ∧ ws.length ≤ i ∧ (∀ x ∈ ws, x.size ≤ s.size) ∧ Below w.heap.size w wr ∧
    ((i ≤ s.size ∧ f ≤ i ∧ splitL s.data.toList = ws.map (·.data.toList) ++ splitL (s.data.toList.drop f) ∧ (32 : UInt8) ∉ (s.data.toList.drop f).take (i - f)) ∨ (i = s.size + 1 ∧ splitL s.data.toList = ws.map (·.data.toList)))

theorem ext_mid (s : ByteArray) (a b : Nat) : (s.extract a b).data.toList = (s.data.toList.drop a).take (b - a) := by
  rw [Lib.extract_data]

theorem mid_size (s : ByteArray) (a b : Nat) : (s.extract a b).size ≤ s.size := by
  simp; omega

theorem drop_mid {l : List UInt8} {f i : Nat} (hf : f ≤ i) : l.drop f = (l.drop f).take (i - f) ++ l.drop i := by
  have h : l.drop i = (l.drop f).drop (i - f) := by rw [List.drop_drop]; congr 1; omega
  rw [h, List.take_append_drop]

theorem split_at {l : List UInt8} {f i : Nat} (hf : f ≤ i) (hi : i < l.length) (hc : l[i] = 32) (hn : (32 : UInt8) ∉ (l.drop f).take (i - f)) : splitL (l.drop f) = (l.drop f).take (i - f) :: splitL (l.drop (i + 1)) := by
  have e : l.drop f = (l.drop f).take (i - f) ++ 32 :: l.drop (i + 1) := by
    conv => lhs; rw [drop_mid hf, List.drop_eq_getElem_cons hi, hc]
  have hx : Lib.indexByte (l.drop f) 32 = (((l.drop f).take (i - f)).length : Int) := by
    conv => lhs; rw [e]
    exact ix_here hn
  have hlen : ((l.drop f).take (i - f)).length = i - f := by rw [List.length_take, List.length_drop]; omega
  rw [hlen] at hx
  rw [splitL_yes hx, List.drop_drop]
  congr 3
  omega

theorem split_last {l : List UInt8} {f : Nat} (hn : (32 : UInt8) ∉ (l.drop f).take (l.length - f)) : splitL (l.drop f) = [l.drop f] := by
  rw [List.take_of_length_le (by rw [List.length_drop]; omega)] at hn
  exact splitL_no (ix_none hn)

theorem take_next {l : List UInt8} {f i : Nat} (hf : f ≤ i) (hi : i < l.length) (hc : l[i] ≠ 32) (hn : (32 : UInt8) ∉ (l.drop f).take (i - f)) : (32 : UInt8) ∉ (l.drop f).take (i + 1 - f) := by
  have hl : i - f < (l.drop f).length := by rw [List.length_drop]; omega
  rw [show i + 1 - f = (i - f) + 1 by omega, List.take_succ_eq_append_getElem hl, List.mem_append, List.mem_singleton, List.getElem_drop]
  rintro (h | h)
  · exact hn h
  · apply hc
    rw [h]
    congr 1
    omega

theorem txt_new (w : World) (t : ByteArray) : ∀ m u, ([.string t] : List Value)[m]? = some u → (w.alloc (.cells #[.string t] 9)).cell? ((⟨w.heap.size, 0, none⟩ : Addr).add m) = some u := by
  intro m u hm
  match m, hm with
  | 0, hm => simp at hm; subst hm; simp [Addr.add]

theorem txt_one (t : ByteArray) : ∀ u ∈ ([.string t] : List Value), u.oneCell' = true := by
  intro u hu; simp at hu; subst hu; rfl

theorem own_snoc {n0 : Nat} {w : World} {v : Value} {ts : List ByteArray} {t : ByteArray} (h : w.ownsRow n0 9 1 v (ts.length + 1) (ts.map Value.string ++ [.string t])) : OwnT n0 w v (ts ++ [t]) := by
  unfold OwnT
  simp only [List.length_append, List.length_cons, List.length_nil, List.map_append, List.map_cons, List.map_nil]
  exact h

/-- What ParseWords answers. -/
def PwPost (w : World) (ls : List (List UInt8)) (e : Ending) (w' : World) : Prop :=
  ((fieldsW ls = none ∧ e = .returned (.tuple #[.slice none 0 0, .int .i64 4])) ∨
   ∃ fs, fieldsW ls = some fs ∧ ∃ u o, e = .returned (.tuple #[u, .int .i64 (codeF fs)]) ∧ OwnXs w.heap.size w' u o ∧ o.map Fx.fld = ansF fs) ∧ Below w.heap.size w w'

def PwSt (w : World) (ls : List (List UInt8)) (i : Nat) (v : Value) (wr : World) : Prop :=
  ∃ d fs, OwnXs w.heap.size wr v d ∧ d.map Fx.fld = fs ∧ fieldsW (ls.take i) = some fs ∧ d.length = i ∧ Below w.heap.size w wr

theorem fieldsW_no {a b : List (List UInt8)} {l : List UInt8} (h : wordO l = none) : fieldsW (a ++ l :: b) = none := by
  rw [fieldsW_append]
  cases fieldsW a with
  | none => rfl
  | some x => simp [fieldsW, h]

theorem fieldsW_snoc {a : List (List UInt8)} {l n t : List UInt8} {fs : List Fld} (ha : fieldsW a = some fs) (h : wordO l = some (n, t)) : fieldsW (a ++ [l]) = some (fs ++ [(⟨n.toArray⟩, [⟨t.toArray⟩])]) := by
  rw [fieldsW_append, ha]
  simp [fieldsW, h]

theorem fieldsP_words (l : List UInt8) : fieldsW (wordsAns l) = fieldsP l := by
  unfold wordsAns fieldsP
  split
  · rfl
  · rfl

theorem pw_plain {N : Nat} {l : List UInt8} {e : Ending} {w' : World} (h : (fieldsW (wordsAns l) = none ∧ e = .returned (.tuple #[.slice none 0 0, .int .i64 4])) ∨
   ∃ fs, fieldsW (wordsAns l) = some fs ∧ ∃ u o, e = .returned (.tuple #[u, .int .i64 (codeF fs)]) ∧ OwnXs N w' u o ∧ o.map Fx.fld = ansF fs) : ∃ u o, e = .returned (.tuple #[u, .int .i64 (codeP l)]) ∧ OwnXs N w' u o ∧ o.map Fx.fld = ansP l := by
  rw [fieldsP_words] at h
  unfold codeP ansP
  rcases h with ⟨h, rfl⟩ | ⟨fs, h, hr⟩
  · rw [h]
    exact ⟨_, [], rfl, own_none _ _, rfl⟩
  · rw [h]
    exact hr

end Go.Proofs.YtfcjnoojcajljabGreatDoor

/-
  What a line's words say as terms; the contracts of the reference's ParseWords and Parse of terms.
-/
namespace Go.Proofs.YtfcjnoojcajljabGreatDoor
open Go.RowKit Go.Lib

def isOp (c : UInt8) : Bool := opN (c.toNat : Int) != 0

/-- The term of a word, if it has one. -/
def termO (l : List UInt8) : Option Tm :=
  match l.dropWhile (fun c => !isOp c) with
  | [] => none
  | c :: r => match readL r with
    | none => none
    | some t => if 5 < opN (c.toNat : Int) ∧ r ≠ [] then none else some (⟨(l.takeWhile (fun c => !isOp c)).toArray⟩, opN (c.toNat : Int), ⟨t.toArray⟩)

def termsW : List (List UInt8) → Option (List Tm)
  | [] => some []
  | l :: ls => match termO l with
    | none => none
    | some x => (termsW ls).map (x :: ·)

theorem termsW_append (a b : List (List UInt8)) : termsW (a ++ b) = (termsW a).bind fun xs => (termsW b).map (xs ++ ·) := by
  induction a with
  | nil => simp [termsW]
  | cons l a ih =>
    simp only [List.cons_append, termsW, ih]
    cases termO l with
    | none => rfl
    | some x =>
      cases termsW a with
      | none => rfl
      | some xs => cases termsW b <;> rfl

theorem termsW_no {a b : List (List UInt8)} {l : List UInt8} (h : termO l = none) : termsW (a ++ l :: b) = none := by
  rw [termsW_append]
  cases termsW a with
  | none => rfl
  | some x => simp [termsW, h]

theorem termsW_snoc {a : List (List UInt8)} {l : List UInt8} {xs : List Tm} {x : Tm} (ha : termsW a = some xs) (h : termO l = some x) : termsW (a ++ [l]) = some (xs ++ [x]) := by
  rw [termsW_append, ha]
  simp [termsW, h]

theorem op_split {l : List UInt8} {k : Nat} (hk : k < l.length) (h : ∀ d ∈ l.take k, isOp d = false) (h2 : isOp l[k] = true) :
    l.takeWhile (fun c => !isOp c) = l.take k ∧ l.dropWhile (fun c => !isOp c) = l[k] :: l.drop (k + 1) := by
  have e : l = l.take k ++ l[k] :: l.drop (k + 1) := by
    conv => lhs; rw [← List.take_append_drop k l, List.drop_eq_getElem_cons hk]
  have hp : ∀ d ∈ l.take k, (!isOp d) = true := fun d hd => by rw [h d hd]; rfl
  constructor
  · conv => lhs; rw [e]
    rw [List.takeWhile_append_of_pos hp, List.takeWhile_cons, h2]
    simp
  · conv => lhs; rw [e]
    rw [List.dropWhile_append_of_pos hp, List.dropWhile_cons, h2]
    simp

theorem op_none {l : List UInt8} (h : ∀ d ∈ l, isOp d = false) : termO l = none := by
  have : l.dropWhile (fun c => !isOp c) = [] := by
    induction l with
    | nil => rfl
    | cons c l ih =>
      rw [List.dropWhile_cons, h c (by simp)]
      simpa using ih fun d hd => h d (by simp [hd])
  unfold termO
  rw [this]

def fitT (x : Tm) : Prop := x.1.size ≤ 1000000000000 ∧ x.2.2.size ≤ 1000000000000 ∧ 0 ≤ x.2.1 ∧ x.2.1 ≤ 7

/-- What ParseWords answers of words. -/
def codeW (o : Option (List Tm)) : Int := match o with | none => 4 | some p => mayM p
def ansW (o : Option (List Tm)) : List Tm := match o with | none => [] | some p => ansM p

def TWPost (w : World) (o : Option (List Tm)) (e : Ending) (w' : World) : Prop :=
  (∃ u, e = .returned (.tuple #[u, .int .i64 (codeW o)]) ∧ KM.Own w.heap.size w' u (ansW o)) ∧ Below w.heap.size w w'

def TWSt (w : World) (ls : List (List UInt8)) (i : Nat) (v : Value) (wr : World) : Prop :=
  ∃ d, KM.Own w.heap.size wr v d ∧ termsW (ls.take i) = some d ∧ d.length = i ∧ (∀ x ∈ d, fitT x) ∧ Below w.heap.size w wr

end Go.Proofs.YtfcjnoojcajljabGreatDoor

/-
  The contract of the reference's Parse of terms; a line of terms is read back.
-/
namespace Go.Proofs.YtfcjnoojcajljabGreatDoor
open Go.RowKit Go.Lib

theorem op_sign {c : UInt8} (h : isOp c = true) : c = 61 ∨ c = 33 ∨ c = 94 ∨ c = 60 ∨ c = 62 ∨ c = 63 ∨ c = 45 := by
  unfold isOp at h
  rw [bne_iff_ne] at h
  unfold opN at h
  have key : ∀ k : UInt8, (k.toNat : Int) = (c.toNat : Int) → c = k := fun k e => UInt8.toNat_inj.1 (by omega)
  by_cases h1 : (61 : Int) = c.toNat
  · exact Or.inl (key 61 h1)
  by_cases h2 : (33 : Int) = c.toNat
  · exact Or.inr (Or.inl (key 33 h2))
  by_cases h3 : (94 : Int) = c.toNat
  · exact Or.inr (Or.inr (Or.inl (key 94 h3)))
  by_cases h4 : (60 : Int) = c.toNat
  · exact Or.inr (Or.inr (Or.inr (Or.inl (key 60 h4))))
  by_cases h5 : (62 : Int) = c.toNat
  · exact Or.inr (Or.inr (Or.inr (Or.inr (Or.inl (key 62 h5)))))
  by_cases h6 : (63 : Int) = c.toNat
  · exact Or.inr (Or.inr (Or.inr (Or.inr (Or.inr (Or.inl (key 63 h6))))))
  by_cases h7 : (45 : Int) = c.toNat
  · exact Or.inr (Or.inr (Or.inr (Or.inr (Or.inr (Or.inr (key 45 h7))))))
  rw [if_neg h1, if_neg h2, if_neg h3, if_neg h4, if_neg h5, if_neg h6, if_neg h7] at h
  exact absurd rfl h

theorem field_noop {l : List UInt8} (h : fieldB l = true) : ∀ c ∈ l, isOp c = false := by
  intro c hc
  unfold fieldB spell at h
  cases l with
  | nil => simp at hc
  | cons x r =>
    simp only [Bool.and_eq_true, List.all_eq_true] at h
    have key : lodB (c.toNat : Int) = true ∨ smallB (c.toNat : Int) = true := by
      rcases List.mem_cons.1 hc with e | hc
      · exact Or.inr (by rw [e]; exact h.1.2)
      · exact Or.inl (h.2 _ hc)
    cases ho : isOp c with
    | false => rfl
    | true =>
      rcases op_sign ho with rfl | rfl | rfl | rfl | rfl | rfl | rfl <;> (rcases key with k | k <;> (revert k; decide))

theorem opC_is {o : Int} (h1 : 1 ≤ o) (h2 : o ≤ 7) : isOp (opC o) = true := by
  unfold isOp
  rw [opN_opC h1 h2, bne_iff_ne]
  omega

theorem opC_noblank (o : Int) : opC o ≠ 32 := by
  unfold opC
  repeat' split
  all_goals decide

theorem termO_back {x : Tm} (h1 : namedM x = true) (h2 : rightM x = true) : termO (wordM x).data.toList = some x := by
  obtain ⟨n, o, t⟩ := x
  have hr := rightM_range h2
  simp only at hr
  have hno := field_noop h1
  simp only at hno
  rw [wordM_data]
  simp only
  have hk : n.data.toList.length < (n.data.toList ++ opC o :: writeL t.data.toList).length := by simp
  have hg : (n.data.toList ++ opC o :: writeL t.data.toList)[n.data.toList.length] = opC o := by simp
  obtain ⟨e1, e2⟩ := op_split hk (by rw [List.take_left' rfl]; exact hno) (by rw [hg]; exact opC_is hr.1 hr.2)
  rw [List.take_left' rfl] at e1
  rw [hg, show n.data.toList ++ opC o :: writeL t.data.toList = (n.data.toList ++ [opC o]) ++ writeL t.data.toList by simp, List.drop_left' (by simp)] at e2
  unfold termO
  rw [e1, show n.data.toList ++ opC o :: writeL t.data.toList = (n.data.toList ++ [opC o]) ++ writeL t.data.toList by simp, e2]
  simp only
  rw [read_write]
  simp only
  rw [opN_opC hr.1 hr.2, if_neg, ba_back, ba_back]
  rintro ⟨h5, hne⟩
  apply hne
  unfold rightM at h2
  simp only [Bool.and_eq_true, Bool.or_eq_true, decide_eq_true_eq] at h2
  have h0 : t.size = 0 := by
    rcases h2.2 with h | h
    · omega
    · exact h
  have : t.data.toList = [] := List.length_eq_zero_iff.1 (by simpa using h0)
  rw [this]
  rfl

theorem terms_back (p : List Tm) (h : ∀ x ∈ p, namedM x = true ∧ rightM x = true) : termsW ((p.map wordM).map (·.data.toList)) = some p := by
  induction p with
  | nil => rfl
  | cons x p ih =>
    have hx := h x (by simp)
    simp only [List.map_cons, termsW]
    rw [termO_back hx.1 hx.2, ih fun y hy => h y (by simp [hy])]
    rfl

theorem wordM_noblank {x : Tm} (h1 : namedM x = true) : (32 : UInt8) ∉ (wordM x).data.toList := by
  rw [wordM_data, List.mem_append, List.mem_cons]
  rintro (h | h | h)
  · exact noblank_mem (field_noblank h1) h
  · exact opC_noblank _ h.symm
  · exact noblank_mem (write_noblank _) h

theorem wordM_pos (x : Tm) : 0 < (wordM x).size := by
  have : 0 < (wordM x).data.toList.length := by rw [wordM_data]; simp; omega
  simpa using this

/-- A line of terms is read back. -/
theorem lineM_back (p : List Tm) (h : ∀ x ∈ p, namedM x = true ∧ rightM x = true) : termsW (wordsAns (lineM p).data.toList) = some p := by
  cases p with
  | nil => rfl
  | cons x p =>
    have hne : (lineM (x :: p)).data.toList ≠ [] := by
      intro e
      have := lineB_ne (ws := (x :: p).map wordM) (by simp) (fun y hy => by obtain ⟨z, _, rfl⟩ := List.mem_map.1 hy; exact wordM_pos z)
      rw [Lib.toList_data] at this
      unfold lineM at e
      rw [e] at this
      cases this
    unfold wordsAns
    rw [if_neg hne]
    unfold lineM
    rw [lineB_data, split_join _ (by simp) (fun y hy => by
      obtain ⟨z, hz, rfl⟩ := List.mem_map.1 hy
      obtain ⟨u, hu, rfl⟩ := List.mem_map.1 hz
      exact wordM_noblank (h u hu).1)]
    exact terms_back _ h

theorem ansM_again {p : List Tm} (h : mayM p = 0) : mayM (ansM p) = 0 ∧ ansM (ansM p) = ansM p := by
  have e : ansM p = sortM p := by unfold ansM; rw [if_pos h]
  have h8 := (mayM_zero h).1
  have hl := sortM_len p
  obtain ⟨s1, s2⟩ := sortM_spec p
  rw [e]
  have hm : mayM (sortM p) = 0 := (mayM_perm s2 (by omega) h8).trans h
  refine ⟨hm, ?_⟩
  unfold ansM
  rw [if_pos hm]
  exact (sortM_unique s1 (fun _ => Iff.rfl)).symm

/-- What Parse answers of Print's line. -/
theorem lineM_parsed {p : List Tm} (h : mayM p = 0) : codeW (termsW (wordsAns (lineM (ansM p)).data.toList)) = 0 ∧ ansW (termsW (wordsAns (lineM (ansM p)).data.toList)) = ansM p := by
  rw [lineM_back _ fun x hx => ⟨(ansM_all x hx).1, (ansM_all x hx).2.1⟩]
  exact ansM_again h

/-- What Parse accepts, Print writes and Parse reads as it was. -/
theorem parsedM_fit {l : List UInt8} (h : codeW (termsW (wordsAns l)) = 0) : mayM (ansW (termsW (wordsAns l))) = 0 ∧ ansM (ansW (termsW (wordsAns l))) = ansW (termsW (wordsAns l)) := by
  cases ht : termsW (wordsAns l) with
  | none => rw [ht] at h; exact absurd h (by decide)
  | some p => rw [ht] at h; exact ansM_again h

end Go.Proofs.YtfcjnoojcajljabGreatDoor

/-
  The contracts of strings.IndexRune of a rune beyond ASCII, and of strings.IndexAny, both at the operators' signs.
-/
namespace Go.Proofs.YtfcjnoojcajljabGreatDoor
open Go.RowKit Go.Lib Go.ChangeMaps

def signsA : ByteArray := ⟨#[61, 33, 94, 60, 62, 63, 45]⟩

theorem signs_op (c : UInt8) : signsA.data.toList.contains c = isOp c := by
  rw [Bool.eq_iff_iff]
  constructor
  · intro h
    have : c ∈ signsA.data.toList := by simpa using h
    simp [signsA] at this
    rcases this with rfl | rfl | rfl | rfl | rfl | rfl | rfl <;> decide
  · intro h
    rcases op_sign h with rfl | rfl | rfl | rfl | rfl | rfl | rfl <;> decide

/-- k is the place of the first sign in l, or -1. -/
def FirstOp (l : List UInt8) (k : Int) : Prop := (k = -1 ∧ ∀ c ∈ l, isOp c = false) ∨ ∃ i : Nat, k = i ∧ ∃ h : i < l.length, isOp l[i] = true ∧ ∀ c ∈ l.take i, isOp c = false

theorem indexAny_first : ∀ l : List UInt8, FirstOp l (Lib.indexAny l signsA.data.toList)
  | [] => Or.inl ⟨rfl, fun c hc => by simp at hc⟩
  | b :: l => by
    have ih := indexAny_first l
    unfold Lib.indexAny
    rw [signs_op]
    cases hb : isOp b with
    | true =>
      rw [if_pos rfl]
      exact Or.inr ⟨0, rfl, by simp, hb, fun c hc => by simp at hc⟩
    | false =>
      rw [if_neg (by simp)]
      rcases ih with ⟨h1, h2⟩ | ⟨i, h1, hi, h3, h4⟩
      · rw [h1]
        refine Or.inl ⟨rfl, fun c hc => ?_⟩
        rcases List.mem_cons.1 hc with rfl | hc
        · exact hb
        · exact h2 c hc
      · rw [h1]
        have : ((i : Int) == -1) = false := by simp
        rw [this, if_neg (by simp)]
        refine Or.inr ⟨i + 1, rfl, by simpa using hi, by simpa using h3, fun c hc => ?_⟩
        rw [List.take_succ_cons] at hc
        rcases List.mem_cons.1 hc with rfl | hc
        · exact hb
        · exact h4 c hc

theorem get_at (s : ByteArray) (i : Nat) (h : i < s.size) : s.get! i = s[i]'h := by
  simp [ByteArray.get!, getElem!_pos, h]
  rfl

/-- A rune beyond ASCII, as it is read. -/
theorem dec_high (s : ByteArray) (pos : Nat) (h : pos < s.size) (hb : 128 ≤ (s[pos]'h).toNat) :
    128 ≤ (Utf8.decode s pos).1 ∧ (Utf8.decode s pos).1 ≤ 2097151 ∧ 1 ≤ (Utf8.decode s pos).2 ∧ pos + (Utf8.decode s pos).2 ≤ s.size ∧ ∀ j, pos ≤ j → j < pos + (Utf8.decode s pos).2 → 128 ≤ (s.get! j).toNat := by
  have e0 : (s.get! (pos + 0)).toNat = (s[pos]'h).toNat := by rw [Nat.add_zero, get_at s pos h]
  have hlt : ∀ k, (s.get! (pos + k)).toNat < 256 := fun k => UInt8.toNat_lt _
  have hcont : ∀ k, (decide (pos + k < s.size) && (s.get! (pos + k)).toNat / 64 == 2) = true → pos + k < s.size ∧ 128 ≤ (s.get! (pos + k)).toNat := fun k hk => by
    rw [Bool.and_eq_true] at hk
    have h1 := of_decide_eq_true hk.1
    have h2 := beq_iff_eq.1 hk.2
    exact ⟨h1, by omega⟩
  have hp0 : 128 ≤ (s.get! pos).toNat := by rw [get_at s pos h]; exact hb
  have hone : ∀ j, pos ≤ j → j < pos + 1 → 128 ≤ (s.get! j).toNat := fun j h1 h2 => by
    have : j = pos := by omega
    subst this; exact hp0
  have herr : (128 ≤ Utf8.runeError) ∧ Utf8.runeError ≤ 2097151 := by decide
  unfold Utf8.decode
  simp only [e0]
  have h80 : ¬ (s[pos]'h).toNat < 128 := by omega
  rw [if_neg h80]
  have hbound : (s[pos]'h).toNat < 256 := UInt8.toNat_lt _
  have l1 := hlt 1
  have l2 := hlt 2
  have l3 := hlt 3
  split
  · rename_i h1
    rw [Bool.and_eq_true] at h1
    obtain ⟨c1, c2⟩ := hcont 1 h1.2
    split
    · rename_i h2
      refine ⟨h2, by omega, by omega, by omega, fun j g1 g2 => ?_⟩
      rcases (show j = pos ∨ j = pos + 1 by omega) with rfl | rfl
      · exact hp0
      · exact c2
    · exact ⟨herr.1, herr.2, by omega, by omega, hone⟩
  · split
    · rename_i h1
      rw [Bool.and_eq_true, Bool.and_eq_true] at h1
      obtain ⟨c1, c2⟩ := hcont 1 h1.1.2
      obtain ⟨d1, d2⟩ := hcont 2 h1.2
      split
      · rename_i h2
        rw [Bool.and_eq_true] at h2
        have h3 := of_decide_eq_true h2.1
        refine ⟨by omega, by omega, by omega, by omega, fun j g1 g2 => ?_⟩
        rcases (show j = pos ∨ j = pos + 1 ∨ j = pos + 2 by omega) with rfl | rfl | rfl
        · exact hp0
        · exact c2
        · exact d2
      · exact ⟨herr.1, herr.2, by omega, by omega, hone⟩
    · split
      · rename_i h1
        rw [Bool.and_eq_true, Bool.and_eq_true, Bool.and_eq_true] at h1
        obtain ⟨c1, c2⟩ := hcont 1 h1.1.1.2
        obtain ⟨d1, d2⟩ := hcont 2 h1.1.2
        obtain ⟨f1, f2⟩ := hcont 3 h1.2
        split
        · rename_i h2
          rw [Bool.and_eq_true] at h2
          have h3 := of_decide_eq_true h2.1
          refine ⟨by omega, by omega, by omega, by omega, fun j g1 g2 => ?_⟩
          rcases (show j = pos ∨ j = pos + 1 ∨ j = pos + 2 ∨ j = pos + 3 by omega) with rfl | rfl | rfl | rfl
          · exact hp0
          · exact c2
          · exact d2
          · exact f2
        · exact ⟨herr.1, herr.2, by omega, by omega, hone⟩
      · exact ⟨herr.1, herr.2, by omega, by omega, hone⟩

/-- The last byte of a rune beyond ASCII, as it is written. -/
theorem enc_last (r : Int) (h : 128 ≤ r) : ∃ m : Nat, 1 ≤ m ∧ m ≤ 3 ∧ ∃ hs : (Utf8.encode r).size = m + 1, 128 ≤ ((Utf8.encode r)[m]'(by omega)).toNat := by
  have hof : ∀ n : Nat, 128 ≤ n → n < 256 → 128 ≤ (UInt8.ofNat n).toNat := fun n h1 h2 => by
    rw [UInt8.toNat_ofNat_of_lt' (by simpa using h2)]; exact h1
  unfold Utf8.encode
  obtain ⟨c, hc⟩ : ∃ c, (if Utf8.valid r = true then r.toNat else Utf8.runeError) = c := ⟨_, rfl⟩
  have hc128 : 128 ≤ c := by
    rw [← hc]
    split
    · omega
    · decide
  simp only [hc]
  have h0 : ¬ c < 128 := by omega
  simp only [if_neg h0]
  by_cases h1 : c < 2048
  · simp only [if_pos h1]
    exact ⟨1, by omega, by omega, rfl, hof _ (by omega) (by omega)⟩
  · simp only [if_neg h1]
    by_cases h2 : c < 65536
    · simp only [if_pos h2]
      exact ⟨2, by omega, by omega, rfl, hof _ (by omega) (by omega)⟩
    · simp only [if_neg h2]
      exact ⟨3, by omega, by omega, rfl, hof _ (by omega) (by omega)⟩

/-- What Op.next does, wherever the iterator lies. -/
theorem run_next_at (W : World) (N : Nat) (s : ByteArray) (pos : Nat) (ty : TypeId) (hN : W.heap[N]? = some (.stringIter s pos)) (h : pos < s.size) :
    (Instr.next (.pointer (some ⟨N, 0, none⟩)) true ty).run Tryz.prog W =
      .ok (.tuple #[.bool true, .int .i64 pos, .int .i32 (Utf8.decode s pos).1]) (setBlock W N (.stringIter s (pos + (Utf8.decode s pos).2))) := by
  have hlt := (Array.getElem?_eq_some_iff.1 hN).1
  simp [Instr.next, getObj, setObj, Sem.run, hN, h, goInt, Result.andThen, setBlock]

theorem run_next_stop (W : World) (N : Nat) (s : ByteArray) (pos : Nat) (ty : TypeId) (hN : W.heap[N]? = some (.stringIter s pos)) (h : ¬ pos < s.size) :
    (Instr.next (.pointer (some ⟨N, 0, none⟩)) true ty).run Tryz.prog W = .ok (.tuple #[.bool false]) W := by
  simp [Instr.next, getObj, Sem.run, hN, h, Result.andThen]

theorem signs_low (x : UInt8) (h : x ∈ (⟨#[61, 33, 94, 60, 62, 63, 45]⟩ : ByteArray).data.toList) : x.toNat < 128 := by
  simp at h
  rcases h with rfl | rfl | rfl | rfl | rfl | rfl | rfl <;> decide

set_option maxHeartbeats 4000000 in
set_option maxRecDepth 100000 in
theorem ixrune_err (w : World) :
    Calls Tryz.prog 70 #[.string ⟨#[61, 33, 94, 60, 62, 63, 45]⟩, .int .i32 65533] w fun e w' => e = .returned (.int .i64 (-1)) ∧ Grown w w' := by
  obtain ⟨s, hs⟩ : ∃ s : ByteArray, ⟨#[61, 33, 94, 60, 62, 63, 45]⟩ = s := ⟨_, rfl⟩
  have h7 : s.size = 7 := by rw [← hs]; rfl
  have hlow : ∀ (i : Nat) (h : i < s.size), (s[i]'h).toNat < 128 := by
    subst hs
    intro i h
    exact signs_low _ (List.getElem_mem (l := (⟨#[61, 33, 94, 60, 62, 63, 45]⟩ : ByteArray).data.toList) (n := i) h)
  rw [hs]
  clear hs
  go_enter Tryz.func70, Tryz.ntmps70
  go_wp2_with fail
  go_loopg [5, 6] 7 (fun g _ _ wx => ∃ i : Nat, i + g = 7 ∧ wx = w.iter s i)
  case atStart => exact ⟨0, by omega, rfl⟩
  case round =>
    obtain ⟨i, hig, rfl⟩ := hrel
    cases gk with
    | zero =>
      have hnx := fun ty => run_next_end (P := Tryz.prog) w s i ty (by omega)
      go_wp2_with fail
      go_ret
      exact ⟨rfl, (Grown.refl _).alloc _⟩
    | succ g =>
      have hi : i < s.size := by omega
      have hx := hlow i hi
      have hnx := fun ty => run_next_ascii (P := Tryz.prog) w s i ty hi hx
      have hne : (((s[i]'hi).toNat : Int) == 65533) = false := by simp; omega
      clear hlow
      go_wp2_with fail
      go_roundg g
      case measure => omega
      case rel => exact ⟨i + 1, by omega, rfl⟩

set_option maxHeartbeats 4000000 in
set_option maxRecDepth 100000 in
theorem ixrune_valid (r : Int) (h1 : 128 ≤ r) (h2 : r ≤ 2097151) (hv : Lib.validRune r = true) (hne : r ≠ 65533) (w : World) :
    Calls Tryz.prog 70 #[.string ⟨#[61, 33, 94, 60, 62, 63, 45]⟩, .int .i32 r] w fun e w' => e = .returned (.int .i64 (-1)) ∧ Grown w w' := by
  obtain ⟨m, hm1, hm3, hs, hb⟩ := enc_last r h1
  obtain ⟨pat, hpat⟩ : ∃ pat, Utf8.encode r = pat := ⟨_, rfl⟩
  simp only [hpat] at hs hb
  obtain ⟨b, hbe⟩ : ∃ b, pat[m]'(by omega) = b := ⟨_, rfl⟩
  rw [hbe] at hb
  have hz : (0 : Int) ≤ r := by omega
  have h128 : decide (r < 128) = false := decide_eq_false (by omega)
  have hne' : (r == 65533) = false := by simpa using hne
  have HV := hid hv
  obtain ⟨s, hse⟩ : ∃ s : ByteArray, ⟨#[61, 33, 94, 60, 62, 63, 45]⟩ = s := ⟨_, rfl⟩
  have h7 : s.size = 7 := by rw [← hse]; rfl
  have hlow : ∀ x ∈ s.data.toList, x.toNat < 128 := by subst hse; exact signs_low
  rw [hse]
  clear hv hne hse
  have hback : ((b.toNat : Int)).toNat.toUInt8 = b := by simp
  have HIX : Hid (∀ W k, Calls Tryz.prog 38 #[.string (s.extract k s.size), .int .u8 b.toNat] W fun e w' => e = .returned (.int .i64 (-1)) ∧ w' = W) := fun W k => by
    have := Tryz.strings_IndexByte (s.extract k s.size) b.toNat W
    rw [hback, ix_none (fun hc => by
      have hm : b ∈ s.data.toList := by
        have e : (s.extract k s.size).data.toList = s.data.toList.drop k := by
          have := ext_drop s k
          exact this
        rw [e] at hc
        exact List.mem_of_mem_drop hc
      have := hlow b hm
      omega)] at this
    exact this
  have hsm : m < s.size := by omega
  obtain ⟨c, hce⟩ : ∃ c, s[m]'hsm = c := ⟨_, rfl⟩
  have hc : c.toNat < 128 := by
    rw [← hce]
    exact hlow _ (List.getElem_mem (l := s.data.toList) (n := m) (by simpa using hsm))
  have hx : ((c.toNat : Int) != (b.toNat : Int)) = true := by simp; omega
  have hmz : (0 : Int) ≤ m := by omega
  have hms : (m : Int) < (s.size : Int) := by omega
  have hmp : (m : Int) < (pat.size : Int) := by omega
  have hpz : (pat.size : Int) - 1 = (m : Int) := by omega
  have hww : IntKind.i64.wrap ((m : Int) + 1) = (m : Int) + 1 := wrap_i64 _ (by omega) (by omega)
  have hm1s : (m : Int) + 1 ≤ (s.size : Int) := by omega
  have hm0z : (0 : Int) ≤ (m : Int) + 1 := by omega
  have hmt : ((m : Int) + 1).toNat = m + 1 := by omega
  have hmp2 : m < pat.size := by omega
  have hbe2 : pat[m]'hmp2 = b := hbe
  clear hbe
  clear h7 hs
  clear hlow
  go_enter Tryz.func70, Tryz.ntmps70
  go_wp2_with (first | (go_at_call 95; refine (Tryz.utf8_ValidRune _ _).mono ?_; rintro e w1 ⟨rfl, rfl⟩; rw [HV.out]))
  go_step3
  go_wp2_with fail
  refine wp_loop_rounds 1 ?_
  rw [rounds_succ]
  go_wp2_with fail
  go_step3
  go_wp2_with fail
  go_quiet (fail)
  go_wp2_with fail
  have hG2 := Grown.draws w1 nq
  generalize w1.drewN nq = W2 at hG2 ⊢
  go_quiet (first | (go_at_call 38; refine Calls.quiet_of_same (HIX.out _ _)))
  go_wp2_with fail
  repeat (first | rw [Exit.noGoto_ret] | simp only [Exit.inBlock, Exit.then])
  go_ret
  exact ⟨rfl, hG2.drewN _⟩

set_option maxHeartbeats 2000000 in
set_option maxRecDepth 100000 in
theorem ixrune_none (r : Int) (h1 : 128 ≤ r) (h2 : r ≤ 2097151) (w : World) :
    Calls Tryz.prog 70 #[.string ⟨#[61, 33, 94, 60, 62, 63, 45]⟩, .int .i32 r] w fun e w' => e = .returned (.int .i64 (-1)) ∧ Grown w w' := by
  by_cases hne : r = 65533
  · subst hne; exact ixrune_err w
  · cases hv : Lib.validRune r with
    | true => exact ixrune_valid r h1 h2 hv hne w
    | false =>
      have h128 : decide (r < 128) = false := decide_eq_false (by omega)
      have hz : (0 : Int) ≤ r := by omega
      have hne' : (r == 65533) = false := by simpa using hne
      have HV := hid hv
      clear hv hne
      go_enter Tryz.func70, Tryz.ntmps70
      go_wp2_with (first | (go_at_call 95; refine (Tryz.utf8_ValidRune _ _).mono ?_; rintro e w1 ⟨rfl, rfl⟩; rw [HV.out]))
      repeat (first | rw [Exit.noGoto_ret] | simp only [Exit.inBlock, Exit.then])
      go_ret
      exact ⟨rfl, Grown.refl _⟩

/-- The iterator of s stands at pos, in block N. -/
def ItAt (W : World) (N : Nat) (s : ByteArray) (pos : Nat) : Prop := W.heap[N]? = some (.stringIter s pos)

theorem it_step {w W : World} {s : ByteArray} {pos : Nat} (h : ItAt W w.heap.size s pos) (hb : Below w.heap.size w W) (p' : Nat) :
    ItAt (setBlock W w.heap.size (.stringIter s p')) w.heap.size s p' ∧ Below w.heap.size w (setBlock W w.heap.size (.stringIter s p')) := by
  have hlt := (Array.getElem?_eq_some_iff.1 h).1
  refine ⟨by unfold ItAt setBlock; simp [hlt], hb.os, hb.tape, hb.output, by simpa [setBlock] using hb.size, fun k hk => ?_⟩
  refine Eq.trans ?_ (hb.block k hk)
  show (W.heap.setIfInBounds w.heap.size _)[k]? = _
  rw [Array.getElem?_setIfInBounds, if_neg (by omega)]

set_option maxHeartbeats 4000000 in
set_option maxRecDepth 100000 in
theorem ixany_short (s : ByteArray) (w : World) (h8 : s.size ≤ 8) :
    Calls Tryz.prog 37 #[.string s, .string ⟨#[61, 33, 94, 60, 62, 63, 45]⟩] w fun e w' => (∃ k, e = .returned (.int .i64 k) ∧ FirstOp s.data.toList k) ∧ Below w.heap.size w w' := by
  have h8z : decide ((8 : Int) < (s.size : Int)) = false := decide_eq_false (by omega)
  obtain ⟨cs, hcs⟩ : ∃ cs : ByteArray, ⟨#[61, 33, 94, 60, 62, 63, 45]⟩ = cs := ⟨_, rfl⟩
  have HCS := hid hcs
  have hemp : cs.toList.isEmpty = false := sfull_of (by rw [← hcs]; decide)
  have hn1 : ((cs.size : Int) == 1) = false := by rw [← hcs]; rfl
  rw [hcs]
  clear hcs
  go_enter Tryz.func37, Tryz.ntmps37
  go_wp2_with (go_at_call 71; refine (Tryz.strings_shouldUseASCIISet _ _).mono ?_; rintro e w' ⟨rfl, hw⟩; rw [hw, h8z])
  go_loopg [9, 10] s.size (fun g _ _ wx => ∃ i : Nat, i ≤ s.size ∧ s.size - i ≤ g ∧ Hid (ItAt wx w.heap.size s i) ∧ Hid (Below w.heap.size w wx) ∧ Hid (∀ c ∈ s.data.toList.take i, isOp c = false))
  case atStart => exact ⟨0, by omega, by omega, World.iter_heap _ _ _, (Below.refl _ _).alloc (Nat.le_refl _) _, fun c hc => by simp at hc⟩
  case round =>
    obtain ⟨i, hi, hg, HI, HB, HN⟩ := hrel
    by_cases hlt : i < s.size
    · have hil : i < s.data.toList.length := by simpa using hlt
      have hnx := fun ty => run_next_at wr w.heap.size s i ty HI.out hlt
      obtain ⟨x, hx⟩ : ∃ x : UInt8, s[i]'hlt = x := ⟨_, rfl⟩
      have hxl : s.data.toList[i] = x := hx
      by_cases hx128 : x.toNat < 128
      · have hdec := decode_ascii s i hlt (by rw [hx]; exact hx128)
        rw [hx] at hdec
        rw [hdec] at hnx
        obtain ⟨hi2, hb2⟩ := it_step HI.out HB.out (i + 1)
        simp only at hnx
        obtain ⟨W1, hW1⟩ : ∃ W1, setBlock wr w.heap.size (.stringIter s (i + 1)) = W1 := ⟨_, rfl⟩
        rw [hW1] at hnx hi2 hb2
        have HI2 := hid hi2
        have HB2 := hid hb2
        have HXL := hid hxl
        have hback : ((x.toNat : Int)).toNat.toUInt8 = x := by simp
        have hcon := Lib.contains_iff_indexByte cs.data.toList x
        have e1 : cs.data.toList.contains x = isOp x := by rw [← HCS.out]; exact signs_op x
        rw [e1] at hcon
        cases hop : isOp x with
        | true =>
          rw [hop] at hcon
          have hge : (0 : Int) ≤ Lib.indexByte cs.data.toList x := of_decide_eq_true hcon.symm
          have HF : Hid (FirstOp s.data.toList (i : Int)) := Or.inr ⟨i, rfl, hil, by rw [hxl]; exact hop, HN.out⟩
          clear hcon e1 hxl hx hW1 hi2 hb2 hdec hop
          go_wp2_with (go_at_call 70; refine (Tryz.strings_IndexRune_ascii _ _ _ (by omega) (by omega)).mono ?_; rintro e w' ⟨rfl, hw⟩; rw [hw, hback])
          go_ret
          exact ⟨⟨_, rfl, HF.out⟩, HB2.out⟩
        | false =>
          rw [hop] at hcon
          have hge : ¬ ((0 : Int) ≤ Lib.indexByte cs.data.toList x) := of_decide_eq_false hcon.symm
          have HF : Hid (∀ c ∈ s.data.toList.take (i + 1), isOp c = false) := fun c hc => by
            rw [List.take_succ_eq_append_getElem hil, List.mem_append, List.mem_singleton] at hc
            rcases hc with hc | hc
            · exact HN.out c hc
            · rw [hc, hxl]; exact hop
          clear hcon e1 hxl hx hW1 hi2 hb2 hdec hop
          go_wp2_with (go_at_call 70; refine (Tryz.strings_IndexRune_ascii _ _ _ (by omega) (by omega)).mono ?_; rintro e w' ⟨rfl, hw⟩; rw [hw, hback])
          go_roundg (s.size - (i + 1))
          case measure => omega
          case rel => exact ⟨i + 1, by omega, by omega, HI2, HB2, HF⟩
      · obtain ⟨r1, r2, r3, r4, r5⟩ := dec_high s i hlt (by rw [hx]; omega)
        obtain ⟨hi2, hb2⟩ := it_step HI.out HB.out (i + (Utf8.decode s i).2)
        obtain ⟨r, hr⟩ : ∃ r, (Utf8.decode s i).1 = r := ⟨_, rfl⟩
        obtain ⟨k, hk⟩ : ∃ k, (Utf8.decode s i).2 = k := ⟨_, rfl⟩
        rw [hr, hk] at hnx
        rw [hr] at r1 r2
        rw [hk] at r3 r4 r5 hi2 hb2
        obtain ⟨W1, hW1⟩ : ∃ W1, setBlock wr w.heap.size (.stringIter s (i + k)) = W1 := ⟨_, rfl⟩
        rw [hW1] at hnx hi2 hb2
        have HF : Hid (∀ c ∈ s.data.toList.take (i + k), isOp c = false) := fun c hc => by
          obtain ⟨j, hj, rfl⟩ := List.mem_iff_getElem.1 hc
          rw [List.length_take] at hj
          rw [List.getElem_take]
          by_cases hji : j < i
          · exact HN.out _ (List.mem_iff_getElem.2 ⟨j, by rw [List.length_take]; omega, by rw [List.getElem_take]⟩)
          · have hjs : j < s.size := by have := hj; simp at this; omega
            have h128 := r5 j (by omega) (by omega)
            rw [get_at s j hjs] at h128
            have e : s.data.toList[j]'(by simpa using hjs) = s[j]'hjs := rfl
            rw [e]
            cases hop : isOp (s[j]'hjs) with
            | false => rfl
            | true => rcases op_sign hop with h | h | h | h | h | h | h <;> (rw [h] at h128; exact absurd h128 (by decide))
        have HIR : Hid (Calls Tryz.prog 70 #[.string cs, .int .i32 r] W1 fun e w' => e = .returned (.int .i64 (-1)) ∧ Grown W1 w') := by
          show Calls _ _ _ _ _
          rw [← HCS.out]
          exact ixrune_none r (by omega) (by omega) W1
        have HI2 := hid hi2
        have HB2 := hid hb2
        clear hxl hx hW1 hi2 hb2 hr hk r5
        go_wp2_with (go_at_call 70; refine HIR.out.mono ?_; rintro e w2 ⟨rfl, hg2⟩)
        go_roundg (s.size - (i + k))
        case measure => omega
        case rel => exact ⟨i + k, by omega, by omega, (hg2.below.block _ (Array.getElem?_eq_some_iff.1 HI2.out).1).trans HI2.out, bel_then HB2.out HB2.out.size hg2.below, HF⟩
    · have hi' : i = s.size := by omega
      have hnx := fun ty => run_next_stop wr w.heap.size s i ty HI.out hlt
      have HF : Hid (FirstOp s.data.toList (-1)) := Or.inl ⟨rfl, fun c hc => HN.out c (by rw [List.take_of_length_le (by simp; omega)]; exact hc)⟩
      go_wp2_with fail
      go_ret
      exact ⟨⟨_, rfl, HF.out⟩, HB.out⟩

theorem ixany_any (s : ByteArray) (w : World) (hs : s.size ≤ 4294967000) :
    Calls Tryz.prog 37 #[.string s, .string ⟨#[61, 33, 94, 60, 62, 63, 45]⟩] w fun e w' => (∃ k, e = .returned (.int .i64 k) ∧ FirstOp s.data.toList k) ∧ Below w.heap.size w w' := by
  by_cases h8 : s.size ≤ 8
  · exact ixany_short s w h8
  · refine (Tryz.strings_IndexAny_long (fun _ => by kernel_rfl) s ⟨#[61, 33, 94, 60, 62, 63, 45]⟩ w (by decide) (by omega) (by omega) (by decide) (fun j b hb => signs_low b (List.mem_of_getElem? hb))).mono ?_
    rintro e w' ⟨rfl, rfl⟩
    exact ⟨⟨_, rfl, indexAny_first _⟩, ((Below.refl _ _).alloc (Nat.le_refl _) _).alloc (by simp) _⟩

end Go.Proofs.YtfcjnoojcajljabGreatDoor

/-
  The contract of term: what a word says.
-/
namespace Go.Proofs.YtfcjnoojcajljabGreatDoor
open Go.RowKit Go.Lib

theorem box_put {W : World} {R : Nat} {x : Tm} (h : BoxM W R x) (y : Tm) :
    BoxM (((W.setCell ⟨R, 0, none⟩ (.string y.1)).setCell ⟨R, 1, none⟩ (.int .i64 y.2.1)).setCell ⟨R, 2, none⟩ (.string y.2.2)) R y :=
  heap_setCell_same _ R 2 _ _ _ (heap_setCell_same _ R 1 _ _ _ (heap_setCell_same W R 0 _ _ _ h))

theorem box_free {W : World} {R : Nat} {x : Tm} (h : BoxM W R x) : W.frozen? ⟨R, 0, none⟩ = false ∧ W.frozen? ⟨R, 1, none⟩ = false ∧ W.frozen? ⟨R, 2, none⟩ = false :=
  ⟨Lib.frozen_of_heap h 0, Lib.frozen_of_heap h 1, Lib.frozen_of_heap h 2⟩

theorem bel_put {B R : Nat} {w W : World} (h : Below B w W) (hR : B ≤ R) (y : Tm) : Below B w (((W.setCell ⟨R, 0, none⟩ (.string y.1)).setCell ⟨R, 1, none⟩ (.int .i64 y.2.1)).setCell ⟨R, 2, none⟩ (.string y.2.2)) :=
  ((h.setCell (p := ⟨R, 0, none⟩) hR _).setCell (p := ⟨R, 1, none⟩) hR _).setCell (p := ⟨R, 2, none⟩) hR _

theorem readL_cons {c : UInt8} {r t : List UInt8} (h : readL (c :: r) = some t) : t ≠ [] := by
  cases hf : firstP (c :: r) with
  | none => rw [readL_none (by simp) hf] at h; cases h
  | some o =>
    obtain ⟨c', n⟩ := o
    rw [readL_some hf] at h
    cases hr : readL ((c :: r).drop n) with
    | none => rw [hr] at h; cases h
    | some m =>
      rw [hr] at h
      rintro rfl
      cases h

theorem ix_sign {c : UInt8} (h : isOp c = true) : Lib.indexByte (⟨#[61, 33, 94, 60, 62, 63, 45]⟩ : ByteArray).data.toList c = opN (c.toNat : Int) - 1 := by
  rcases op_sign h with rfl | rfl | rfl | rfl | rfl | rfl | rfl <;> decide

theorem op_pos {c : UInt8} (h : isOp c = true) : 1 ≤ opN (c.toNat : Int) ∧ opN (c.toNat : Int) ≤ 7 := by
  have h1 := opN_range (c.toNat : Int)
  have h2 : opN (c.toNat : Int) ≠ 0 := by unfold isOp at h; exact bne_iff_ne.1 h
  omega

/-- What a word with a sign says. -/
theorem termO_at {l : List UInt8} {i : Nat} (hi : i < l.length) (h1 : isOp l[i] = true) (h2 : ∀ c ∈ l.take i, isOp c = false) :
    termO l = match readL (l.drop (i + 1)) with
      | none => none
      | some t => if rightM (⟨(l.take i).toArray⟩, opN (l[i].toNat : Int), ⟨t.toArray⟩) = true then some (⟨(l.take i).toArray⟩, opN (l[i].toNat : Int), ⟨t.toArray⟩) else none := by
  obtain ⟨e1, e2⟩ := op_split hi h2 h1
  unfold termO
  rw [e2]
  simp only
  cases hr : readL (l.drop (i + 1)) with
  | none => rfl
  | some t =>
    simp only
    rw [e1]
    obtain ⟨o1, o2⟩ := op_pos h1
    have hz : (⟨t.toArray⟩ : ByteArray).size = 0 ↔ t = [] := by
      show t.toArray.size = 0 ↔ _
      simp
    have hne : l.drop (i + 1) ≠ [] ↔ t ≠ [] := by
      cases hd : l.drop (i + 1) with
      | nil => rw [hd, readL_nil] at hr; cases hr; simp
      | cons c r => rw [hd] at hr; exact ⟨fun _ => readL_cons hr, fun _ => by simp⟩
    by_cases h5 : 5 < opN (l[i].toNat : Int)
    · by_cases ht : t = []
      · have : rightM (⟨(l.take i).toArray⟩, opN (l[i].toNat : Int), ⟨t.toArray⟩) = true := by
          unfold rightM
          simp only [decide_eq_true o1, decide_eq_true o2, decide_eq_true (hz.2 ht), Bool.true_and, Bool.or_true]
        rw [if_neg (fun h => (hne.1 h.2) ht), if_pos this]
      · have : rightM (⟨(l.take i).toArray⟩, opN (l[i].toNat : Int), ⟨t.toArray⟩) = false := by
          unfold rightM
          have e3 : decide (opN (l[i].toNat : Int) < 6) = false := decide_eq_false (by omega)
          have e4 : decide ((⟨t.toArray⟩ : ByteArray).size = 0) = false := decide_eq_false (fun h => ht (hz.1 h))
          simp only [e3, e4, Bool.or_false, Bool.and_false]
        rw [if_pos ⟨h5, hne.2 ht⟩, if_neg (by rw [this]; simp)]
    · have : rightM (⟨(l.take i).toArray⟩, opN (l[i].toNat : Int), ⟨t.toArray⟩) = true := by
        unfold rightM
        have e3 : decide (opN (l[i].toNat : Int) < 6) = true := decide_eq_true (by omega)
        simp only [decide_eq_true o1, decide_eq_true o2, e3, Bool.true_and, Bool.true_or]
      rw [if_neg (fun h => h5 h.1), if_pos this]

theorem FirstOp.uniq {l : List UInt8} {a b : Int} (ha : FirstOp l a) (hb : FirstOp l b) : a = b := by
  rcases ha with ⟨rfl, h1⟩ | ⟨i, rfl, hi, h1, h2⟩
  · rcases hb with ⟨rfl, _⟩ | ⟨j, rfl, hj, h3, _⟩
    · rfl
    · rw [h1 _ (List.getElem_mem hj)] at h3; cases h3
  · rcases hb with ⟨rfl, h3⟩ | ⟨j, rfl, hj, h3, h4⟩
    · rw [h3 _ (List.getElem_mem hi)] at h1; cases h1
    · rcases Nat.lt_trichotomy i j with h | h | h
      · rw [h4 _ (List.mem_iff_getElem.2 ⟨i, by rw [List.length_take]; omega, by rw [List.getElem_take]⟩)] at h1; cases h1
      · rw [h]
      · rw [h2 _ (List.mem_iff_getElem.2 ⟨j, by rw [List.length_take]; omega, by rw [List.getElem_take]⟩)] at h3; cases h3

theorem ixany_at {s : ByteArray} {k : Int} (h : FirstOp s.data.toList k) (w : World) (hs : s.size ≤ 4294967000) :
    Calls Tryz.prog 37 #[.string s, .string ⟨#[61, 33, 94, 60, 62, 63, 45]⟩] w fun e w' => e = .returned (.int .i64 k) ∧ Below w.heap.size w w' :=
  (ixany_any s w hs).mono fun _ _ ⟨⟨k', h1, h2⟩, h3⟩ => ⟨by rw [h1, h.uniq h2], h3⟩

/-- What term answers. -/
def termV (o : Option Tm) : Value := match o with
  | none => .tuple #[.agg #[.string ⟨#[]⟩, .int .i64 0, .string ⟨#[]⟩], .int .i64 4]
  | some x => .tuple #[.agg #[.string x.1, .int .i64 x.2.1, .string x.2.2], .int .i64 0]

set_option maxHeartbeats 4000000 in
set_option maxRecDepth 100000 in
theorem term_any (s : ByteArray) (w : World) (hp : PlainAt w) (hs : s.size ≤ 4294967000) :
    Calls Tryz.prog 18 #[.string s] w fun e w' => e = .returned (termV (termO s.data.toList)) ∧ Below w.heap.size w w' := by
  obtain ⟨W0, hW0⟩ : ∃ W0, w.alloc (.cells #[.string ⟨#[]⟩, .int .i64 0, .string ⟨#[]⟩] 30) = W0 := ⟨_, rfl⟩
  obtain ⟨R, hR⟩ : ∃ R, w.heap.size = R := ⟨_, rfl⟩
  have hb0 : Below R w W0 := by rw [← hW0, ← hR]; exact (Below.refl _ _).alloc (Nat.le_refl _) _
  have hx0 : BoxM W0 R (⟨#[]⟩, 0, ⟨#[]⟩) := by rw [← hW0, ← hR]; exact boxM_new w (⟨#[]⟩, 0, ⟨#[]⟩)
  have hRl : R < W0.heap.size := hx0.lt
  have HP := hid (show PlainAt W0 from hp.on (by rw [hR]; exact hb0))
  have HB0 := hid hb0
  have HX0 := hid hx0
  obtain ⟨V, hV⟩ : ∃ V, termV (termO s.data.toList) = V := ⟨_, rfl⟩
  have HV := hid hV
  rw [hV, hR]
  clear hp hb0 hx0 hV
  have KR : Hid (∀ W, Below W0.heap.size W0 W → BoxM W R (⟨#[]⟩, 0, ⟨#[]⟩)) := fun W h => HX0.out.on h
  have KZ : Hid (∀ W, Below W0.heap.size W0 W → Below R w W) := fun W h => HB0.out.trans (h.mono (Nat.le_of_lt hRl))
  rcases indexAny_first s.data.toList with hk | ⟨i, hki, hi, h1, h2⟩
  · have HX := hid (ixany_at (Or.inl ⟨rfl, hk.2⟩) W0 hs)
    have HO : Hid (V = .tuple #[.agg #[.string ⟨#[]⟩, .int .i64 0, .string ⟨#[]⟩], .int .i64 4]) := by
      show _ = _
      rw [← HV.out, op_none hk.2]
      rfl
    clear hk
    go_enter Tryz.func18, Tryz.ntmps18
    go_wp2_with (first | (go_at_call 37; refine HX.out.mono ?_; rintro e w1 ⟨rfl, hb1⟩; have hx1 := KR.out _ hb1; obtain ⟨k0, k1, k2⟩ := hx1.cells; obtain ⟨f0, f1, f2⟩ := box_free hx1; simp only at k0 k1 k2; have HX1 := hid hx1; clear hx1))
    obtain ⟨j0, j1, j2⟩ := (box_put HX1.out (⟨#[]⟩, 0, ⟨#[]⟩)).cells
    simp only at j0 j1 j2
    exact bodyPost_ret (v := .tuple #[.agg #[.string ⟨#[]⟩, .int .i64 0, .string ⟨#[]⟩], .int .i64 4]) (by simp [results, Tryz.results18, go_sem, j0, j1, j2]) rfl ⟨by rw [HO.out], bel_put (KZ.out _ hb1) (Nat.le_refl _) (⟨#[]⟩, 0, ⟨#[]⟩)⟩
  · have HX := hid (ixany_at (Or.inr ⟨i, rfl, hi, h1, h2⟩) W0 hs)
    have HT := hid (termO_at hi h1 h2)
    have his : i < s.size := by simpa using hi
    obtain ⟨c, hc⟩ : ∃ c, s[i]'his = c := ⟨_, rfl⟩
    have hcl : s.data.toList[i] = c := hc
    rw [hcl] at HT h1
    have hix := ix_sign h1
    obtain ⟨o1, o2⟩ := op_pos h1
    obtain ⟨o, ho⟩ : ∃ o, opN (c.toNat : Int) = o := ⟨_, rfl⟩
    rw [ho] at hix o1 o2 HT
    have hback : ((c.toNat : Int)).toNat.toUInt8 = c := by simp
    have HIX : Hid (∀ W, Calls Tryz.prog 38 #[.string ⟨#[61, 33, 94, 60, 62, 63, 45]⟩, .int .u8 c.toNat] W fun e w' => e = .returned (.int .i64 (o - 1)) ∧ w' = W) := fun W => by
      have := Tryz.strings_IndexByte ⟨#[61, 33, 94, 60, 62, 63, 45]⟩ c.toNat W
      rw [hback, hix] at this
      exact this
    have hw1 : IntKind.i64.wrap (1 + (o - 1)) = o := by rw [show 1 + (o - 1) = o by omega]; exact wrap_i64 _ (by omega) (by omega)
    have hiz : (0 : Int) ≤ i := by omega
    have hiz2 : (i : Int) < (s.size : Int) := by omega
    have hiz3 : (i : Int) + 1 ≤ (s.size : Int) := by omega
    have hiz4 : (0 : Int) ≤ (i : Int) + 1 := by omega
    have hit : ((i : Int) + 1).toNat = i + 1 := by omega
    have hnn : ¬ ((i : Int) < 0) := by omega
    have HRD : Hid (∀ W, PlainAt W → Calls Tryz.prog 39 #[.string (s.extract (i + 1) s.size)] W fun e w' => e = .returned (readV (readL (s.data.toList.drop (i + 1)))) ∧ Below W.heap.size W w') := fun W h => by
      have := read_any (s.extract (i + 1) s.size) W h (by simp; omega)
      rwa [ext_drop] at this
    have HE := hid (ext_take s i)
    clear hcl hix ho hki hi h2 h1
    cases hrd : readL (s.data.toList.drop (i + 1)) with
    | none =>
      rw [hrd] at HRD HT
      have HO : Hid (V = .tuple #[.agg #[.string ⟨#[]⟩, .int .i64 0, .string ⟨#[]⟩], .int .i64 4]) := by
        show _ = _
        rw [← HV.out, HT.out]
        rfl
      simp only [readV] at HRD
      go_enter Tryz.func18, Tryz.ntmps18
      go_wp2_with (first
        | (go_at_call 37; refine HX.out.mono ?_; rintro e w1 ⟨rfl, hb1⟩)
        | (go_at_call 38; refine (HIX.out _).mono ?_; rintro e w1' ⟨rfl, hw'⟩; rw [hw'])
        | (go_at_call 39; refine (HRD.out w1 (HP.out.on hb1)).mono ?_; rintro e w2 ⟨rfl, hb2⟩; have hb12 : Below W0.heap.size W0 (w2.alloc (.cells #[.string (s.extract 0 i), .int .i64 o, .string ⟨#[]⟩] 30)) := (bel_then hb1 hb1.size hb2).alloc (Nat.le_trans hb1.size hb2.size) _; have hx1 := KR.out _ hb12; obtain ⟨k0, k1, k2⟩ := hx1.cells; obtain ⟨f0, f1, f2⟩ := box_free hx1; simp only at k0 k1 k2; have HX1 := hid hx1; clear hx1))
      obtain ⟨j0, j1, j2⟩ := (box_put HX1.out (⟨#[]⟩, 0, ⟨#[]⟩)).cells
      simp only at j0 j1 j2
      exact bodyPost_ret (v := .tuple #[.agg #[.string ⟨#[]⟩, .int .i64 0, .string ⟨#[]⟩], .int .i64 4]) (by simp [results, Tryz.results18, go_sem, j0, j1, j2]) rfl ⟨by rw [HO.out], bel_put (KZ.out _ hb12) (Nat.le_refl _) (⟨#[]⟩, 0, ⟨#[]⟩)⟩
    | some t =>
      rw [hrd] at HRD HT
      simp only [readV] at HRD
      rw [← HE.out] at HT
      have HU : Hid (∀ W, Calls Tryz.prog 26 #[.agg #[.string (s.extract 0 i), .int .i64 o, .string ⟨t.toArray⟩]] W fun e w' => e = .returned (.bool (!rightM (s.extract 0 i, o, ⟨t.toArray⟩))) ∧ Grown W w') := fun W => punm_any (s.extract 0 i, o, ⟨t.toArray⟩) W
      have KF : Hid (∀ w2 w4 : World, Below W0.heap.size W0 w2 → Grown (w2.alloc (.cells #[.string (s.extract 0 i), .int .i64 o, .string ⟨t.toArray⟩] 30)) w4 → BoxM w4 w2.heap.size (s.extract 0 i, o, ⟨t.toArray⟩) ∧ Below W0.heap.size W0 w4) := fun w2 w4 h hg =>
        ⟨(boxM_new w2 (s.extract 0 i, o, ⟨t.toArray⟩)).on hg.below, bel_then (h.alloc h.size _) (h.alloc h.size _).size hg.below⟩
      cases hrt : rightM (s.extract 0 i, o, ⟨t.toArray⟩) with
      | false =>
        rw [hrt] at HU
        have HO : Hid (V = .tuple #[.agg #[.string ⟨#[]⟩, .int .i64 0, .string ⟨#[]⟩], .int .i64 4]) := by
          show _ = _
          rw [← HV.out, HT.out]
          simp only [hrt]
          rfl
        go_enter Tryz.func18, Tryz.ntmps18
        go_wp2_with (first
          | (go_at_call 37; refine HX.out.mono ?_; rintro e w1 ⟨rfl, hb1⟩)
          | (go_at_call 38; refine (HIX.out _).mono ?_; rintro e w1' ⟨rfl, hw'⟩; rw [hw'])
          | (go_at_call 39; refine (HRD.out w1 (HP.out.on hb1)).mono ?_; rintro e w2 ⟨rfl, hb2⟩; have hb12 : Below W0.heap.size W0 w2 := bel_then hb1 hb1.size hb2)
          | (go_at_call 26; refine (HU.out _).mono ?_; rintro e w4 ⟨rfl, hg4⟩; obtain ⟨hbx, hb4⟩ := KF.out _ _ hb12 hg4; have hx1 := KR.out _ hb4; obtain ⟨k0, k1, k2⟩ := hx1.cells; obtain ⟨f0, f1, f2⟩ := box_free hx1; simp only at k0 k1 k2; have HX1 := hid hx1; clear hx1 hbx))
        obtain ⟨j0, j1, j2⟩ := (box_put HX1.out (⟨#[]⟩, 0, ⟨#[]⟩)).cells
        simp only at j0 j1 j2
        exact bodyPost_ret (v := .tuple #[.agg #[.string ⟨#[]⟩, .int .i64 0, .string ⟨#[]⟩], .int .i64 4]) (by simp [results, Tryz.results18, go_sem, j0, j1, j2]) rfl ⟨by rw [HO.out], bel_put (KZ.out _ hb4) (Nat.le_refl _) (⟨#[]⟩, 0, ⟨#[]⟩)⟩
      | true =>
        rw [hrt] at HU
        have HO : Hid (V = .tuple #[.agg #[.string (s.extract 0 i), .int .i64 o, .string ⟨t.toArray⟩], .int .i64 0]) := by
          show _ = _
          rw [← HV.out, HT.out]
          simp only [hrt]
          rfl
        go_enter Tryz.func18, Tryz.ntmps18
        go_wp2_with (first
          | (go_at_call 37; refine HX.out.mono ?_; rintro e w1 ⟨rfl, hb1⟩)
          | (go_at_call 38; refine (HIX.out _).mono ?_; rintro e w1' ⟨rfl, hw'⟩; rw [hw'])
          | (go_at_call 39; refine (HRD.out w1 (HP.out.on hb1)).mono ?_; rintro e w2 ⟨rfl, hb2⟩; have hb12 : Below W0.heap.size W0 w2 := bel_then hb1 hb1.size hb2)
          | (go_at_call 26; refine (HU.out _).mono ?_; rintro e w4 ⟨rfl, hg4⟩; obtain ⟨hbx, hb4⟩ := KF.out _ _ hb12 hg4; obtain ⟨g0, g1, g2⟩ := hbx.cells; have hx1 := KR.out _ hb4; obtain ⟨k0, k1, k2⟩ := hx1.cells; obtain ⟨f0, f1, f2⟩ := box_free hx1; simp only at k0 k1 k2 g0 g1 g2; have HX1 := hid hx1; clear hx1 hbx))
        obtain ⟨j0, j1, j2⟩ := (box_put HX1.out (s.extract 0 i, o, ⟨t.toArray⟩)).cells
        simp only at j0 j1 j2
        exact bodyPost_ret (v := .tuple #[.agg #[.string (s.extract 0 i), .int .i64 o, .string ⟨t.toArray⟩], .int .i64 0]) (by simp [results, Tryz.results18, go_sem, j0, j1, j2]) rfl ⟨by rw [HO.out], bel_put (KZ.out _ hb4) (Nat.le_refl _) (s.extract 0 i, o, ⟨t.toArray⟩)⟩

end Go.Proofs.YtfcjnoojcajljabGreatDoor

/-
  What ValueKeeps makes and writes: rows with spare room, and fields that are written over.
-/
namespace Go.Proofs.YtfcjnoojcajljabGreatDoor
open Go.RowKit Go.Lib

theorem Tryz.infoTs : (Tryz.prog.info? 32).map (fun i => (i.zero, i.size, i.bytes)) = some (some (.slice none 0 0), 1, 24) := by kernel_rfl

def markA : ByteArray := ⟨#[109, 97, 114, 107]⟩

/-- The texts of x lie in a block of their own at or behind N, with two cells of spare room: the mark, and nothing. -/
def RoomAt (N : Nat) (W : World) (x : Fx) : Prop :=
  ∃ g, x.p = some ⟨g, 0, none⟩ ∧ x.cap = x.txt.length + 2 ∧ N ≤ g ∧ W.heap[g]? = some (.cells (x.txt.map Value.string ++ [Value.string markA, Value.string ⟨#[]⟩]).toArray 9 (0, 0))

theorem RoomAt.on {N : Nat} {W W' : World} {x : Fx} (h : RoomAt N W x) (hb : Below W.heap.size W W') : RoomAt N W' x := by
  obtain ⟨g, h1, h2, h3, h4⟩ := h
  exact ⟨g, h1, h2, h3, (hb.block g (Array.getElem?_eq_some_iff.1 h4).1).trans h4⟩

theorem RoomAt.else {N m0 : Nat} {W W' : World} {x : Fx} {e : TypeId} {size : Nat} {u : Value} {m : Nat} {ys : List Value} (h : RoomAt N W x) (hu : W.ownsRow m0 e size u m ys) (hne : e ≠ 9) (hg : W.grownBy W' u.ownBlock) : RoomAt N W' x := by
  obtain ⟨g, h1, h2, h3, h4⟩ := h
  refine ⟨g, h1, h2, h3, (hg.block g (Array.getElem?_eq_some_iff.1 h4).1 fun e2 => ?_).trans h4⟩
  obtain ⟨cs', h5⟩ := own_type hu e2.symm
  rw [h4] at h5
  injection h5 with h5
  injection h5 with _ h5
  exact hne h5.symm

theorem RoomAt.at {N : Nat} {W : World} {x : Fx} (h : RoomAt N W x) : x.at W := by
  obtain ⟨g, h1, _, _, h4⟩ := h
  refine Or.inr ⟨g, 0, h1, fun i hi => ?_⟩
  rw [Nat.zero_add, cell_of_row W g i _ _ _ h4]
  simp [List.getElem?_append, hi]

theorem RoomAt.mark {N : Nat} {W : World} {x : Fx} (h : RoomAt N W x) : ∃ g, x.p = some ⟨g, 0, none⟩ ∧ x.cap = x.txt.length + 2 ∧ W.cell? ⟨g, x.txt.length, none⟩ = some (.string markA) := by
  obtain ⟨g, h1, h2, _, h4⟩ := h
  refine ⟨g, h1, h2, ?_⟩
  rw [cell_of_row W g _ _ _ _ h4]
  simp

/-- What the first loop has made. -/
structure Ins (w : World) (e : List Fx) (vi vr : Value) (W : World) : Prop where
  row : RowX w.heap.size W vi e
  rooms : W.ownsRow w.heap.size 32 1 vr e.length (e.map Fx.sl)
  each : ∀ x ∈ e, RoomAt w.heap.size W x
  bel : Below w.heap.size w W

theorem Ins.on {w W W' : World} {e : List Fx} {vi vr : Value} (h : Ins w e vi vr W) (hb : Below W.heap.size W W') : Ins w e vi vr W' :=
  ⟨own_on h.row hb, own_on h.rooms hb, fun x hx => (h.each x hx).on hb, h.bel.trans (hb.mono h.bel.size)⟩

theorem Ins.is {w W : World} {e : List Fx} {vi vr : Value} (h : Ins w e vi vr W) : IsXs W vi e := h.row.is fun x hx => (h.each x hx).at

/-- The cells of a new room, the texts copied and the mark set. -/
theorem room_cells (ts : List ByteArray) : ((splice (List.replicate (ts.length + 2) (Value.string ⟨#[]⟩)) 0 (ts.map Value.string)).toArray.setIfInBounds ts.length (.string markA)) = (ts.map Value.string ++ [Value.string markA, Value.string ⟨#[]⟩]).toArray := by
  apply Array.toList_inj.1
  rw [Array.toList_setIfInBounds]
  simp only [splice, List.take_zero, List.nil_append, List.length_map, Nat.zero_add, List.drop_replicate]
  rw [show ts.length + 2 - ts.length = 2 by omega, List.set_append_right _ _ (by simp)]
  simp

theorem made_strs (n : Nat) : madeCells (Value.string ⟨#[]⟩).cells ((n + 2) * 1) = (List.replicate (n + 2) (Value.string ⟨#[]⟩)).toArray := by
  apply Array.toList_inj.1
  apply List.ext_getElem
  · simp [madeCells]
  · intro i h1 h2
    simp [madeCells, Value.cells]
    rw [Nat.mod_one]
    rfl

theorem own_same {w w' : World} {n0 : Nat} {e : TypeId} {size : Nat} {v : Value} {n : Nat} {xs : List Value} (h : w.ownsRow n0 e size v n xs) (hk : ∀ k, v.ownBlock = some k → w'.heap[k]? = w.heap[k]?) : w'.ownsRow n0 e size v n xs := by
  refine ⟨h.1, ?_⟩
  rcases h.2 with h2 | ⟨g, cap, cur, hv, h3, h4, h5⟩
  · exact Or.inl h2
  · exact Or.inr ⟨g, cap, cur, hv, h3, (hk g (by rw [hv]; rfl)).trans h4, h5⟩

/-- Blocks ahead of A, and from B up to C, are as they were. -/
structure KeptZ (A B C : Nat) (we W : World) : Prop where
  os : W.os = we.os
  tape : W.tape = we.tape
  output : W.output = we.output
  size : C ≤ W.heap.size
  block : ∀ k, k < C → (k < A ∨ B ≤ k) → W.heap[k]? = we.heap[k]?

def ZoneV (B C : Nat) (v : Value) : Prop := ∀ k, v.ownBlock = some k → k < B ∨ C ≤ k

theorem KeptZ.grown {A B C : Nat} {we W W' : World} {ob : Option Nat} (h : KeptZ A B C we W) (hg : W.grownBy W' ob) (hz : ∀ k, ob = some k → A ≤ k ∧ (k < B ∨ C ≤ k)) : KeptZ A B C we W' :=
  ⟨hg.os.trans h.os, hg.tape.trans h.tape, hg.output.trans h.output, Nat.le_trans h.size hg.size, fun k hk hz2 => (hg.block k (Nat.lt_of_lt_of_le hk h.size) fun e => by
    have := hz k e.symm
    omega).trans (h.block k hk hz2)⟩

theorem grown_alloc (w : World) (o : Obj) : w.grownBy (w.alloc o) none := by
  have := (Below.refl w.heap.size w).alloc (Nat.le_refl _) o
  exact ⟨this.os, this.tape, this.output, this.size, fun k hk _ => this.block k hk⟩

theorem KeptZ.below {A B C : Nat} {we W : World} (h : KeptZ A B C we W) (hAC : A ≤ C) (hC : we.heap.size ≤ C) : Below A we W :=
  ⟨h.os, h.tape, h.output, Nat.le_trans hC h.size, fun k hk => h.block k (by omega) (Or.inl hk)⟩

/-- The fields o, written over in place. -/
structure XSt (A B C : Nat) (we : World) (u : Value) (o : List Fx) (W : World) : Prop where
  own : OwnJ A W u o
  zu : ZoneV B C u
  zo : ∀ x ∈ o, ZoneV B C x.sl
  kept : KeptZ A B C we W

theorem cellsX_set (o : List Fx) (i : Nat) (h : i < o.length) (x : Fx) : cellsX (o.set i x) = ((cellsX o).set (i * 2) (.string x.name)).set (i * 2 + 1) x.sl := by
  induction o generalizing i with
  | nil => simp at h
  | cons y o ih =>
    have e : ∀ z l, cellsX (z :: l) = .string z.name :: z.sl :: cellsX l := fun _ _ => rfl
    cases i with
    | zero => rw [List.set_cons_zero, e, e]; rfl
    | succ i =>
      rw [List.set_cons_succ, e, e, ih i (by simpa using h), show (i + 1) * 2 = i * 2 + 1 + 1 by omega]
      rfl

theorem apart_ne {o : List Fx} (h : Apart o) {i j : Nat} (hi : i < o.length) (hj : j < o.length) (hne : i ≠ j) : (o[i]).sl.ownBlock = none ∨ (o[i]).sl.ownBlock ≠ (o[j]).sl.ownBlock := by
  have hp := List.pairwise_iff_getElem.1 h
  rcases Nat.lt_or_gt_of_ne hne with hl | hl
  · exact hp i j hi hj hl
  · rcases hp j i hj hi hl with h1 | h1
    · rcases hb : (o[i]).sl.ownBlock with _ | k
      · exact Or.inl rfl
      · right; rw [h1]; simp
    · exact Or.inr (Ne.symm h1)

theorem apart_set {o : List Fx} (h : Apart o) {i : Nat} (_hi : i < o.length) {x : Fx} (hx : ∀ j, (hj : j < o.length) → j ≠ i → (o[j]).sl.ownBlock = none ∨ (o[j]).sl.ownBlock ≠ x.sl.ownBlock) : Apart (o.set i x) := by
  have hp := List.pairwise_iff_getElem.1 h
  refine List.pairwise_iff_getElem.2 fun a b ha hb hab => ?_
  rw [List.length_set] at ha hb
  rw [List.getElem_set, List.getElem_set]
  by_cases h1 : i = a
  · subst h1
    rw [if_pos rfl, if_neg (by omega)]
    rcases hx b hb (by omega) with h2 | h2
    · rcases hq : x.sl.ownBlock with _ | k
      · exact Or.inl rfl
      · right; rw [h2]; simp
    · exact Or.inr (Ne.symm h2)
  · rw [if_neg h1]
    by_cases h2 : i = b
    · subst h2
      rw [if_pos rfl]
      exact hx a ha (by omega)
    · rw [if_neg h2]
      exact hp a b ha hb hab

/-- The row of fields u has its block. -/
theorem XSt.shape {A B C : Nat} {we W : World} {u : Value} {o : List Fx} (h : XSt A B C we u o W) (hpos : 0 < o.length) : ∃ g c, u = .slice (some ⟨g, 0, none⟩) o.length c := by
  rcases h.own.1.1.2 with ⟨_, h0⟩ | ⟨g, c, cur, hv, _⟩
  · omega
  · exact ⟨g, c, hv⟩

/-- What can be read of the field i, and that it can be written. -/
theorem XSt.cells {A B C : Nat} {we W : World} {g c n : Nat} {o : List Fx} (h : XSt A B C we (.slice (some ⟨g, 0, none⟩) n c) o W) (hn : o.length = n) {i : Nat} (hi : i < o.length) :
    W.cell? ⟨g, i * 2, none⟩ = some (.string (o[i]).name) ∧ W.cell? ⟨g, i * 2 + 1, none⟩ = some (o[i]).sl ∧ W.frozen? ⟨g, i * 2, none⟩ = false ∧ W.frozen? ⟨g, i * 2 + 1, none⟩ = false := by
  subst hn
  have hrow := h.own.1.1
  obtain ⟨h1, h2⟩ := cellsX_get o i hi
  exact ⟨by rw [hrow.cellAt _ (by omega)]; exact h1, by rw [hrow.cellAt _ (by omega)]; exact h2, hrow.frozenAt _, hrow.frozenAt _⟩

theorem sl_lt {A : Nat} {W : World} {x : Fx} (h : OwnT A W x.sl x.txt) : ∀ k, x.sl.ownBlock = some k → A ≤ k := fun k hk => (World.ownsRow.lt h k hk).1

/-- One text is written over. -/
theorem XSt.wipe {A B C : Nat} {we W : World} {u : Value} {o : List Fx} (h : XSt A B C we u o W) {i : Nat} (hi : i < o.length) {j gt : Nat} (hp : (o[i]).p = some ⟨gt, 0, none⟩) (t : ByteArray) :
    XSt A B C we u (o.set i ⟨(o[i]).name, (o[i]).p, (o[i]).cap, (o[i]).txt.set j t⟩) (W.setCell ⟨gt, j, none⟩ (.string t)) := by
  have hti := h.own.1.2 _ (List.getElem_mem hi)
  have hbi : (o[i]).sl.ownBlock = some gt := by unfold Fx.sl; rw [hp]; rfl
  have hg : W.grownBy (W.setCell ⟨gt, j, none⟩ (.string t)) (o[i]).sl.ownBlock := by rw [hbi]; exact grown_set W gt j _
  have hsl : (⟨(o[i]).name, (o[i]).p, (o[i]).cap, (o[i]).txt.set j t⟩ : Fx).sl = (o[i]).sl := by unfold Fx.sl; simp
  have hnew : OwnT A (W.setCell ⟨gt, j, none⟩ (.string t)) (o[i]).sl ((o[i]).txt.set j t) := by
    have e : (o[i]).sl = .slice (some ⟨gt, 0, none⟩) (o[i]).txt.length (o[i]).cap := by unfold Fx.sl; rw [hp]
    have h1 : W.ownsRow A 9 1 (.slice (some ⟨gt, 0, none⟩) (o[i]).txt.length (o[i]).cap) (o[i]).txt.length ((o[i]).txt.map Value.string) := by rw [← e]; exact hti
    have h2 := (h1.stored j (.string t)).1
    unfold OwnT
    rw [e, List.length_set, List.map_set]
    exact h2
  refine ⟨⟨⟨?_, fun x hx => ?_⟩, ?_⟩, h.zu, fun x hx => ?_, h.kept.grown hg fun k hk => ⟨sl_lt hti k hk, h.zo _ (List.getElem_mem hi) k hk⟩⟩
  · rw [List.length_set, cellsX_set _ _ hi, hsl]
    obtain ⟨c0, c1⟩ := cellsX_get o i hi
    have e1 : ((cellsX o).set (i * 2) (.string (o[i]).name)).set (i * 2 + 1) (o[i]).sl = cellsX o := by
      apply List.ext_getElem?
      intro q
      rw [List.getElem?_set, List.getElem?_set]
      simp only [List.length_set]
      have hl := cellsX_len o
      split
      · rename_i hq; subst hq; rw [if_pos (by omega)]; exact c1.symm
      · split
        · rename_i hq; subst hq; rw [if_pos (by omega)]; exact c0.symm
        · rfl
    rw [e1]
    exact own_else h.own.1.1 hti (by decide) hg
  · obtain ⟨q, hq, rfl⟩ := List.mem_iff_getElem.1 hx
    rw [List.length_set] at hq
    rw [List.getElem_set]
    by_cases e : i = q
    · rw [if_pos e, hsl]; exact hnew
    · rw [if_neg e]
      exact World.ownsRow.kept (h.own.1.2 _ (List.getElem_mem hq)) hg (apart_ne h.own.2 hq hi (by omega))
  · refine apart_set h.own.2 hi fun q hq hne => ?_
    rw [hsl]
    exact apart_ne h.own.2 hq hi hne
  · obtain ⟨q, hq, rfl⟩ := List.mem_iff_getElem.1 hx
    rw [List.length_set] at hq
    rw [List.getElem_set]
    by_cases e : i = q
    · rw [if_pos e, hsl]; exact h.zo _ (List.getElem_mem hi)
    · rw [if_neg e]; exact h.zo _ (List.getElem_mem hq)

/-- The name is written over. -/
theorem XSt.rename {A B C : Nat} {we W : World} {g c n : Nat} {o : List Fx} (h : XSt A B C we (.slice (some ⟨g, 0, none⟩) n c) o W) (hn : o.length = n) {i : Nat} (hi : i < o.length) (nm : ByteArray) :
    XSt A B C we (.slice (some ⟨g, 0, none⟩) n c) (o.set i ⟨nm, (o[i]).p, (o[i]).cap, (o[i]).txt⟩) (W.setCell ⟨g, i * 2, none⟩ (.string nm)) := by
  subst hn
  have hrow := h.own.1.1
  have hg : W.grownBy (W.setCell ⟨g, i * 2, none⟩ (.string nm)) (Value.slice (some ⟨g, 0, none⟩) o.length c).ownBlock := grown_set W g _ _
  have hsl : (⟨nm, (o[i]).p, (o[i]).cap, (o[i]).txt⟩ : Fx).sl = (o[i]).sl := rfl
  refine ⟨⟨⟨?_, fun x hx => ?_⟩, ?_⟩, h.zu, fun x hx => ?_, h.kept.grown hg fun k hk => ⟨(World.ownsRow.lt hrow k hk).1, h.zu k hk⟩⟩
  · have hst := (hrow.stored (i * 2) (.string nm)).1
    rw [List.length_set, cellsX_set _ _ hi, hsl]
    have e1 : ((cellsX o).set (i * 2) (.string nm)).set (i * 2 + 1) (o[i]).sl = (cellsX o).set (i * 2) (.string nm) := by
      apply List.ext_getElem?
      intro q
      rw [List.getElem?_set]
      split
      · rename_i hq
        subst hq
        rw [if_pos (by rw [List.length_set, cellsX_len]; omega), List.getElem?_set_ne (by omega)]
        exact ((cellsX_get o i hi).2).symm
      · rfl
    rw [e1]
    exact hst
  · obtain ⟨q, hq, rfl⟩ := List.mem_iff_getElem.1 hx
    rw [List.length_set] at hq
    rw [List.getElem_set]
    by_cases e : i = q
    · rw [if_pos e]; exact own_else (show W.ownsRow A 9 1 (o[i]).sl (o[i]).txt.length ((o[i]).txt.map Value.string) from h.own.1.2 _ (List.getElem_mem hi)) hrow (by decide) hg
    · rw [if_neg e]; exact own_else (h.own.1.2 _ (List.getElem_mem hq)) hrow (by decide) hg
  · refine apart_set h.own.2 hi fun q hq hne => ?_
    rw [hsl]
    exact apart_ne h.own.2 hq hi hne
  · obtain ⟨q, hq, rfl⟩ := List.mem_iff_getElem.1 hx
    rw [List.length_set] at hq
    rw [List.getElem_set]
    by_cases e : i = q
    · rw [if_pos e, hsl]; exact h.zo _ (List.getElem_mem hi)
    · rw [if_neg e]; exact h.zo _ (List.getElem_mem hq)

/-- A block more, that nobody owns. -/
theorem XSt.alloc {A B C : Nat} {we W : World} {u : Value} {o : List Fx} (h : XSt A B C we u o W) (ob : Obj) : XSt A B C we u o (W.alloc ob) :=
  ⟨h.own.on ((Below.refl _ _).alloc (Nat.le_refl _) _), h.zu, h.zo, h.kept.grown (grown_alloc W ob) fun k hk => by cases hk⟩

/-- The texts have grown by one, and are stored back. -/
theorem XSt.grow {A B C : Nat} {we W W4 : World} {g c n : Nat} {o : List Fx} (h : XSt A B C we (.slice (some ⟨g, 0, none⟩) n c) o W) (hn : o.length = n) {i : Nat} (hi : i < o.length) {p : Option Addr} {m cap : Nat} {ts : List ByteArray}
    (hm : ts.length = m) (hown : W4.ownsRow A 9 1 (.slice p m cap) m (ts.map Value.string)) (hg : W.grownBy W4 (o[i]).sl.ownBlock) (hat : (Value.slice p m cap).ownBlock = (o[i]).sl.ownBlock ∨ (Value.slice p m cap).ownBlock = some W.heap.size) :
    W4.cell? ⟨g, i * 2 + 1, none⟩ = some (o[i]).sl ∧ W4.frozen? ⟨g, i * 2 + 1, none⟩ = false ∧
      XSt A B C we (.slice (some ⟨g, 0, none⟩) n c) (o.set i ⟨(o[i]).name, p, cap, ts⟩) (W4.setCell ⟨g, i * 2 + 1, none⟩ (.slice p m cap)) := by
  subst hn
  subst hm
  have hrow := h.own.1.1
  have hti := h.own.1.2 _ (List.getElem_mem hi)
  have hrow4 : W4.ownsRow A 34 2 (.slice (some ⟨g, 0, none⟩) o.length c) o.length (cellsX o) := own_else hrow hti (by decide) hg
  have hset : W4.grownBy (W4.setCell ⟨g, i * 2 + 1, none⟩ (.slice p ts.length cap)) (Value.slice (some ⟨g, 0, none⟩) o.length c).ownBlock := grown_set W4 g _ _
  have hk4 : KeptZ A B C we W4 := h.kept.grown hg fun k hk => ⟨sl_lt hti k hk, h.zo _ (List.getElem_mem hi) k hk⟩
  have hzn : ZoneV B C (.slice p ts.length cap) := fun k hk => by
    rcases hat with e | e
    · exact h.zo _ (List.getElem_mem hi) k (by rw [← e]; exact hk)
    · have := h.kept.size
      rw [e] at hk
      have : W.heap.size = k := by simpa using hk
      omega
  refine ⟨by rw [hrow4.cellAt _ (by omega)]; exact (cellsX_get o i hi).2, hrow4.frozenAt _, ⟨⟨⟨?_, fun x hx => ?_⟩, ?_⟩, h.zu, fun x hx => ?_, hk4.grown hset fun k hk => ⟨(World.ownsRow.lt hrow k hk).1, h.zu k hk⟩⟩⟩
  · have hst := (hrow4.stored (i * 2 + 1) (.slice p ts.length cap)).1
    rw [List.length_set, cellsX_set _ _ hi]
    have e1 : (cellsX o).set (i * 2) (.string (o[i]).name) = cellsX o := by
      apply List.ext_getElem?
      intro q
      rw [List.getElem?_set]
      split
      · rename_i hq
        subst hq
        rw [if_pos (by rw [cellsX_len]; omega)]
        exact ((cellsX_get o i hi).1).symm
      · rfl
    rw [e1]
    exact hst
  · obtain ⟨q, hq, rfl⟩ := List.mem_iff_getElem.1 hx
    rw [List.length_set] at hq
    rw [List.getElem_set]
    by_cases e : i = q
    · rw [if_pos e]; exact own_else (show W4.ownsRow A 9 1 (.slice p ts.length cap) ts.length (ts.map Value.string) from hown) hrow4 (by decide) hset
    · rw [if_neg e]
      have hy4 : W4.ownsRow A 9 1 (o[q]).sl (o[q]).txt.length ((o[q]).txt.map Value.string) := World.ownsRow.kept (h.own.1.2 _ (List.getElem_mem hq)) hg (apart_ne h.own.2 hq hi (by omega))
      exact own_else hy4 hrow4 (by decide) hset
  · refine apart_set h.own.2 hi fun q hq hne => ?_
    show (o[q]).sl.ownBlock = none ∨ (o[q]).sl.ownBlock ≠ (Value.slice p ts.length cap).ownBlock
    rcases hat with e | e
    · rw [e]; exact apart_ne h.own.2 hq hi hne
    · rcases hb : (o[q]).sl.ownBlock with _ | k
      · exact Or.inl rfl
      · right
        have := (World.ownsRow.lt (h.own.1.2 _ (List.getElem_mem hq)) k hb).2
        rw [e]
        intro e2
        simp at e2; omega
  · obtain ⟨q, hq, rfl⟩ := List.mem_iff_getElem.1 hx
    rw [List.length_set] at hq
    rw [List.getElem_set]
    by_cases e : i = q
    · rw [if_pos e]; exact hzn
    · rw [if_neg e]; exact h.zo _ (List.getElem_mem hq)

/-- What Norm answers, its rows apart. -/
def NJPost (w : World) (fs : List Fld) (e : Ending) (w' : World) : Prop :=
  (∃ u o, e = .returned (.tuple #[u, .int .i64 (codeF fs)]) ∧ OwnJ w.heap.size w' u o ∧ o.map Fx.fld = ansF fs) ∧ Below w.heap.size w w'

theorem own_noneJ (N : Nat) (w : World) : OwnJ N w (.slice none 0 0) [] := ⟨own_none _ _, List.Pairwise.nil⟩

theorem ans_small {fs : List Fld} : ∀ f ∈ ansF fs, f.2.length ≤ 8 := by
  unfold ansF
  split
  · rename_i h
    exact fun f hf => (fits_parts (may_fits (codeF_zero h).2.2 f hf)).2.2.1
  · intro f hf; simp at hf

end Go.Proofs.YtfcjnoojcajljabGreatDoor

/-
  The contract of Parse of terms.
-/
namespace Go.Proofs.YtfcjnoojcajljabGreatDoor
open Go.RowKit
attribute [local go_sem] Oper.semAt_some

theorem termO_fit {l : List UInt8} {x : Tm} (h : termO l = some x) : x.1.size ≤ l.length ∧ x.2.2.size ≤ l.length ∧ 0 ≤ x.2.1 ∧ x.2.1 ≤ 7 := by
  unfold termO at h
  cases hd : l.dropWhile (fun c => !isOp c) with
  | nil => rw [hd] at h; cases h
  | cons c r =>
    rw [hd] at h
    simp only at h
    have hl : (l.dropWhile (fun c => !isOp c)).length ≤ l.length := (List.dropWhile_sublist _).length_le
    rw [hd, List.length_cons] at hl
    cases hr : readL r with
    | none => rw [hr] at h; cases h
    | some t =>
      rw [hr] at h
      simp only at h
      split at h
      · cases h
      · cases h
        have h1 := readL_len _ _ _ (Nat.le_refl _) hr
        have h2 := opN_range (c.toNat : Int)
        refine ⟨?_, ?_, h2.1, h2.2⟩
        · show (l.takeWhile _).toArray.size ≤ _
          rw [List.size_toArray]
          exact (List.takeWhile_sublist _).length_le
        · show t.toArray.size ≤ _
          rw [List.size_toArray]
          omega

theorem termsW_fit {B : Nat} (ls : List (List UInt8)) (hB : ∀ l ∈ ls, l.length ≤ B) : ∀ d, termsW ls = some d → d.length = ls.length ∧ ∀ x ∈ d, x.1.size ≤ B ∧ x.2.2.size ≤ B ∧ 0 ≤ x.2.1 ∧ x.2.1 ≤ 7 := by
  induction ls with
  | nil => intro d h; cases h; exact ⟨rfl, fun x hx => by simp at hx⟩
  | cons l ls ih =>
    intro d h
    simp only [termsW] at h
    cases ho : termO l with
    | none => rw [ho] at h; cases h
    | some y =>
      rw [ho] at h
      cases hr : termsW ls with
      | none => rw [hr] at h; cases h
      | some gs =>
        rw [hr] at h
        cases h
        obtain ⟨h1, h2⟩ := ih (fun l' hl' => hB l' (by simp [hl'])) gs hr
        refine ⟨by simp [h1], fun x hx => ?_⟩
        rcases List.mem_cons.1 hx with rfl | hx
        · obtain ⟨f1, f2, f3, f4⟩ := termO_fit ho
          have := hB l (by simp)
          exact ⟨by omega, by omega, f3, f4⟩
        · exact h2 x hx

theorem Kind.own_far {α : Type} {K : Kind α} {N R : Nat} {w w' : World} {v : Value} {d : List α} (h : K.Own N w v d) (hg : w.grownBy w' (some R)) (hR : R < N) : K.Own N w' v d :=
  own_same h fun k hk => hg.block k (World.ownsRow.lt h k hk).2 (fun e => by have := (World.ownsRow.lt h k hk).1; have := Option.some.inj e; omega)

/-- What Parse holds between two rounds. -/
def PSt {M : Nat} (w : World) (N : Nat) (pre : List (Wd M)) (W : World) : Prop :=
  ∃ v d, W.heap[w.heap.size + 2]? = some (.cells #[v] 22 (0, 0)) ∧ KM.Own (N + 2) W v d ∧ termsW (plainW pre) = some d ∧ d.length = pre.length ∧
    W.heap[w.heap.size]? = some (.cells #[.slice none 0 0] 22 (0, 0)) ∧ W.heap[w.heap.size + 1]? = some (.cells #[.int .i64 0] 25 (0, 0)) ∧ Below w.heap.size w W ∧ N + 2 ≤ W.heap.size ∧ w.heap.size + 6 ≤ N

def PStop {M : Nat} (w : World) (N : Nat) (c : Code) (pre : List (Wd M)) (W : World) : Prop :=
  c = .ret ∧ termsW (plainW pre) = none ∧ W.heap[w.heap.size]? = some (.cells #[.slice none 0 0] 22 (0, 0)) ∧ W.heap[w.heap.size + 1]? = some (.cells #[.int .i64 4] 25 (0, 0)) ∧ Below w.heap.size w W ∧ w.heap.size + 6 ≤ N

set_option maxHeartbeats 1000000 in
theorem pparse_empty (w : World) : Calls Tryz.prog 7 #[.string ⟨#[]⟩] w fun e w' => TWPost w (termsW (wordsAns [])) e w' := by
  refine (callsIn_wide (n := 3)).1 ?_
  refine callsIn_of_wp_marks Tryz.func7 rfl trivial ?_ rfl
  simp only [Tryz.ntmps7, List.size_toArray, List.length_cons, List.length_nil, Nat.reduceAdd, Nat.reduceSub, Array.replicate_succ, Array.replicate_zero, List.push_toArray, List.append_toArray, List.nil_append, List.cons_append]
  gi_wp2
  exact ⟨.tuple #[.slice none 0 0, .int .i64 0], by simp [results, Tryz.results7, go_sem], ⟨⟨_, rfl, KM.own_nil _ _⟩, ((Below.refl _ w).alloc (Nat.le_refl _) _).alloc (by simp) _⟩⟩

set_option maxHeartbeats 4000000 in
set_option maxRecDepth 100000 in
theorem pparse_words (s : ByteArray) (w : World) (hp : PlainAt w) (h0 : s.data.toList ≠ []) (hs : s.size ≤ 4294967000) :
    Calls Tryz.prog 7 #[.string s] w fun e w' => TWPost w (termsW (wordsAns s.data.toList)) e w' := by
  refine (callsIn_wide (n := 3)).1 ?_
  refine callsIn_of_wp_marks Tryz.func7 rfl trivial ?_ rfl
  simp only [Tryz.ntmps7, List.size_toArray, List.length_cons, List.length_nil, Nat.reduceAdd, Nat.reduceSub, Array.replicate_succ, Array.replicate_zero, List.push_toArray, List.append_toArray, List.nil_append, List.cons_append]
  have hsl : (splitL s.data.toList).length ≤ s.size + 1 := by simpa using splitL_len s.data.toList
  have hne : s.toList.isEmpty = false := by
    rw [Lib.toList_data]
    cases h : s.data.toList with
    | nil => exact absurd h h0
    | cons _ _ => rfl
  gi_wp2_with (refine ⟨trivial, ?_⟩; gi_at_call 17; refine (callsIn_wide.2 (splitSeq_any _ _)).mono ?_; rintro e w3 ⟨rfl, hbx, hb3, hs3⟩)
  simp only [World.size_alloc] at hbx hb3 hs3
  have hb30 : Below w.heap.size w w3 := ((((Below.refl _ w).alloc (Nat.le_refl _) _).alloc (by simp) _).alloc (by simp; omega) _).trans (hb3.mono (by omega))
  have g0 : w3.heap[w.heap.size]? = some (.cells #[.slice none 0 0] 22 (0, 0)) := by
    rw [hb3.block _ (by omega), Below.heap_alloc _ _ _ (by simp; omega), Below.heap_alloc _ _ _ (by simp)]; exact heap_alloc_new w _
  have g1 : w3.heap[w.heap.size + 1]? = some (.cells #[.int .i64 0] 25 (0, 0)) := by
    rw [hb3.block _ (by omega), Below.heap_alloc _ _ _ (by simp)]
    have := heap_alloc_new (w.alloc (.cells #[.slice none 0 0] 22)) (.cells #[.int .i64 0] 25)
    simpa using this
  have g2 : w3.heap[w.heap.size + 2]? = some (.cells #[.slice none 0 0] 22 (0, 0)) := by
    rw [hb3.block _ (by omega)]
    have := heap_alloc_new ((w.alloc (.cells #[.slice none 0 0] 22)).alloc (.cells #[.int .i64 0] 25)) (.cells #[.slice none 0 0] 22)
    simpa using this
  have hN6 : w3.heap.size = w.heap.size + 6 := by omega
  have ST0 : Hid (∀ o1 o2, PSt (M := s.size) w w3.heap.size [] ((w3.alloc o1).alloc o2)) := fun o1 o2 => by
    have ha : ∀ k, k < w3.heap.size → ((w3.alloc o1).alloc o2).heap[k]? = w3.heap[k]? := fun k hk => by
      rw [Below.heap_alloc _ _ _ (by simp; omega), Below.heap_alloc _ _ _ hk]
    exact ⟨.slice none 0 0, [], (ha _ (by omega)).trans g2, KM.own_nil _ _, rfl, rfl, (ha _ (by omega)).trans g0, (ha _ (by omega)).trans g1,
      (hb30.alloc hb30.size _).alloc (by have := hb30.size; simp; omega) _, by simp, by omega⟩
  have HBX := hid hbx
  have HP := hid hp
  have hen := enters_of (P := Tryz.prog) Tryz.func67 (by kernel_rfl) rfl
  clear hbx hp g0 g1 g2 hb3 hs3
  refine wpIn_rangeFunc_box (w := w3) rfl (by decide) (gf := 67) (lb := #[.pointer (some ⟨w.heap.size + 1 + 1 + 1 + 1, 0, none⟩), .pointer (some ⟨w.heap.size + 1 + 1 + 1, 0, none⟩), .pointer (some ⟨w.heap.size + 1 + 1 + 1 + 2, 0, none⟩)]) rfl trivial hen (Bs := w.heap.size + 1 + 1 + 1) (by omega)
    (split1_seq 2 (by decide) s.size _ _ _ s (Nat.le_refl _) (by unfold maxLen; omega) w3 HBX.out) ?hKt ?hKb (fun _ => rfl) (PSt w w3.heap.size) (PStop w w3.heap.size) ?hIp ?hIb ?hXp ST0.out
    (fun x => { tmps := #[.string s, undef, .pointer (some ⟨w.heap.size, 0, none⟩), .pointer (some ⟨w.heap.size + 1, 0, none⟩), .pointer (some ⟨w.heap.size + 1 + 1, 0, none⟩), .string x.1, undef, undef, .string s, .bool false, .string s,
      .func (.func 67) #[] #[.pointer (some ⟨w.heap.size + 1 + 1 + 1 + 1, 0, none⟩), .pointer (some ⟨w.heap.size + 1 + 1 + 1, 0, none⟩), .pointer (some ⟨w.heap.size + 1 + 1 + 1 + 2, 0, none⟩)],
      .string x.1, undef, undef, undef, undef, undef, undef, undef, undef, undef, undef, undef, undef, undef, undef, undef, undef], defers := [] }) ?assign ?body ?done ?stop
  case hKt => exact fun h k => ⟨k.1.trans h.1, k.2.1.trans h.2.1, k.2.2.trans h.2.2⟩
  case hKb => exact fun W l o' hl => ⟨World.putObj_heap_other (by omega), World.putObj_heap_other (by omega), World.putObj_heap_other (by omega)⟩
  case hIp =>
    rintro pre W o' ⟨v, d, k2, hox, hf, hl, k0, k1, hb, hz, h6⟩
    have hg : W.grownBy (W.putObj (w3.heap.size + 1) o') (some (w3.heap.size + 1)) := grownBy_putObj' W _ o'
    exact ⟨v, d, (World.putObj_heap_other (by omega)).trans k2, Kind.own_far hox hg (by omega), hf, hl, (World.putObj_heap_other (by omega)).trans k0, (World.putObj_heap_other (by omega)).trans k1, hb.grown hg (by omega) (fun k e => by cases e; omega), Nat.le_trans hz hg.size, h6⟩
  case hIb =>
    rintro pre W u ⟨v, d, k2, hox, hf, hl, k0, k1, hb, hz, h6⟩
    have hg : W.grownBy (W.setCell ⟨w.heap.size + 1 + 1 + 1, 0, none⟩ u) (some (w.heap.size + 1 + 1 + 1)) := grown_set W _ 0 u
    exact ⟨v, d, (hg.block _ (by omega) (by intro e; have := Option.some.inj e; omega)).trans k2, Kind.own_far hox hg (by omega), hf, hl, (hg.block _ (by omega) (by intro e; have := Option.some.inj e; omega)).trans k0, (hg.block _ (by omega) (by intro e; have := Option.some.inj e; omega)).trans k1, hb.grown hg (by omega) (fun k e => by cases e; omega), Nat.le_trans hz hg.size, h6⟩
  case hXp =>
    rintro c pre W o' ⟨hc, hf, k0, k1, hb, h6⟩
    have hg : W.grownBy (W.putObj (w3.heap.size + 1) o') (some (w3.heap.size + 1)) := grownBy_putObj' W _ o'
    exact ⟨hc, hf, (World.putObj_heap_other (by omega)).trans k0, (World.putObj_heap_other (by omega)).trans k1, ⟨hg.os.trans hb.os, hg.tape.trans hb.tape, hg.output.trans hb.output, Nat.le_trans hb.size hg.size, fun k hk => (World.putObj_heap_other (by omega)).trans (hb.block k hk)⟩, h6⟩
  case assign =>
    intro l x W K hK
    simp only [encW]
    gi_wp2
    exact hK
  case body =>
    rintro l pre x W hlW ⟨v, d, k2, hox, hf, hl, k0, k1, hb, hz, h6⟩ hlen
    have hwp := term_any x.1 W (HP.out.on hb) (Nat.le_trans x.2 hs)
    obtain ⟨i0, hi, hz0, hz1, hz2⟩ := info_parts Tryz.infoTrm
    have hpl : plainW (pre ++ [x]) = plainW pre ++ [x.1.data.toList] := by simp [plainW]
    have HPL := hid hpl
    have HF := hid hf
    have HB := hid hb
    have HOX := hid hox
    have HK0 := hid k0
    have HK1 := hid k1
    have HK2 := hid k2
    have HLN := hid hl
    clear hpl hf hb hox hl
    cases hwo : termO x.1.data.toList with
    | none =>
      rw [hwo] at hwp
      have HW : Hid (Calls Tryz.prog 18 #[.string x.1] W fun e w' => e = .returned (.tuple #[.agg #[.string ⟨#[]⟩, .int .i64 0, .string ⟨#[]⟩], .int .i64 4]) ∧ Below W.heap.size W w') := hwp
      have HNO : Hid (termsW (plainW (pre ++ [x])) = none) := by
        show _ = _
        rw [HPL.out]
        exact termsW_no hwo
      clear hwp k0 k1 k2
      have HN6 := hid hN6
      clear hN6
      gi_wp2_with (refine ⟨trivial, ?_⟩; gi_at_call 18; refine (CallsIn.inRound l (callsIn_wide.2 HW.out)).mono ?_; rintro e W2 ⟨rfl, hb2⟩; have hs2 := hb2.size; have t0 := HK0.out; have t1 := HK1.out; have t0' := (Below.heap_alloc W2 (.cells #[.string ⟨#[]⟩, .int .i64 0, .string ⟨#[]⟩] 30) w.heap.size (by omega)).trans ((hb2.block w.heap.size (by omega)).trans t0); have t1' := (Below.heap_alloc W2 (.cells #[.string ⟨#[]⟩, .int .i64 0, .string ⟨#[]⟩] 30) (w.heap.size + 1) (by omega)).trans ((hb2.block (w.heap.size + 1) (by omega)).trans t1); obtain ⟨q0, q1⟩ := one_facts t0'; obtain ⟨q2, q3⟩ := one_facts t1'; have T0 := hid t0'; have T1 := hid t1'; clear t0 t1 t0' t1')
      have hbb := ((((HB.out.trans (hb2.mono HB.out.size)).alloc (Nat.le_trans HB.out.size hs2) (.cells #[.string ⟨#[]⟩, .int .i64 0, .string ⟨#[]⟩] 30)).setCell (p := ⟨w.heap.size, 0, none⟩) (Nat.le_refl _) (.slice none 0 0)).setCell (p := ⟨w.heap.size + 1, 0, none⟩) (by show _ ≤ w.heap.size + 1; omega) (.int .i64 4))
      have hkf : KeepsFrom w3.heap.size W (W2.alloc (.cells #[.string ⟨#[]⟩, .int .i64 0, .string ⟨#[]⟩] 30)) := KeepsFrom.trans (keeps_below hb2) ((KeepsOthers.alloc _ _).from _)
      exact ⟨(hkf.trans ((KeepsOthers.setCell _ _ _).from _)).trans ((KeepsOthers.setCell _ _ _).from _), rfl, HNO.out, Boxed.other (Boxed.set _ T0.out) (by omega) _, Boxed.set _ (Boxed.other T1.out (by omega) _), hbb, h6⟩
    | some y =>
      rw [hwo] at hwp
      have HW : Hid (Calls Tryz.prog 18 #[.string x.1] W fun e w' => e = .returned (.tuple #[.agg #[.string y.1, .int .i64 y.2.1, .string y.2.2], .int .i64 0]) ∧ Below W.heap.size W w') := hwp
      have HNO : Hid (termsW (plainW (pre ++ [x])) = some (d ++ [y])) := by
        show _ = _
        rw [HPL.out]
        exact termsW_snoc HF.out hwo
      obtain ⟨yf, yo, yt⟩ := y
      simp only at HW
      clear hwp k0 k1 k2
      have HN6 := hid hN6
      clear hN6
      gi_wp2_with (first | (gi_at_builtin; refine wpListIn_append_own _ rfl _ _ 22 rfl (w3.heap.size + 2) 30 i0 (.agg #[.string ⟨#[]⟩, .int .i64 0, .string ⟨#[]⟩]) 3 40 Tryz.underlying22 hi hz0 hz1 hz2 rfl (by decide) _ _ _ rfl HX2.out ⟨W2.heap.size + 1, 0, none⟩ 1 1 (KM.cells [(yf, yo, yt)]) rfl rfl HC.out (KM.cells_ones _) (by rw [HLN.out]; unfold maxLen; omega) (by rw [HLN.out]; omega) (by simp; omega) ?_; intro v' w1 hown' hgrow _; obtain ⟨g', cap', rfl⟩ := ownsRow_succ hown'; have hv1 := T2.out.kept hgrow (T2.out.not_row (by decide) HX2.out); have hc1 := hv1.cell; have hf1 := hv1.frozen; have HV1 := hid hv1; have HO := hid hown'; have HG := hid hgrow; clear hv1 hown' hgrow) | (refine ⟨trivial, ?_⟩; gi_at_call 18; refine (CallsIn.inRound l (callsIn_wide.2 HW.out)).mono ?_; rintro e W2 ⟨rfl, hb2⟩; have hs2 := hb2.size; have t2 := HK2.out; have t2' := (Below.heap_alloc W2 (.cells #[.string yf, .int .i64 yo, .string yt] 30) (w.heap.size + 2) (by omega)).trans ((hb2.block (w.heap.size + 2) (by omega)).trans t2); obtain ⟨q0, q1⟩ := one_facts t2'; have T2 : Hid (Boxed ((W2.alloc (.cells #[.string yf, .int .i64 yo, .string yt] 30)).alloc (.cells #[.string yf, .int .i64 yo, .string yt] 30)) (w.heap.size + 2) 22 v) := hid (Boxed.alloc t2' _); have HB2 : Hid (Below W.heap.size W ((W2.alloc (.cells #[.string yf, .int .i64 yo, .string yt] 30)).alloc (.cells #[.string yf, .int .i64 yo, .string yt] 30))) := hid ((hb2.alloc hs2 _).alloc (by simp; omega) _); have HX2 := hid (Kind.own_on HOX.out HB2.out); have HC := hid (KM.news (W2.alloc (.cells #[.string yf, .int .i64 yo, .string yt] 30)) (yf, yo, yt)); rw [World.size_alloc] at HC; clear t2 t2'))
      have hb12 : Below (w3.heap.size + 2) W w1 := (HB2.out.mono hz).trans ((Below.refl _ _).grown HG.out (by simp; omega) (fun k hk => (World.ownsRow.lt HX2.out k hk).1))
      have hsz1 := hb12.size
      have hox0 : KM.Own (w3.heap.size + 2) w1 (.slice (some ⟨g', 0, none⟩) (d.length + 1) cap') (d ++ [(yf, yo, yt)]) := Kind.own_snoc HO.out rfl rfl
      have hox1 := Kind.own_far hox0 (grown_set w1 (w.heap.size + 2) 0 (.slice (some ⟨g', 0, none⟩) (d.length + 1) cap')) (by omega)
      have hkf : KeepsFrom w3.heap.size W w1 := (keeps_below HB2.out).trans ((KeepsOthers.of_grownBy HG.out (fun j o ej hj => row_cells HX2.out ej hj)).from _)
      refine ⟨hkf.trans ((KeepsOthers.setCell _ _ _).from _), ⟨(Below.heap_setCell w1 _ _ _ (by show _ ≠ w.heap.size + 1 + 1; omega)).trans (hb12.block _ (by omega)), (Below.heap_setCell w1 _ _ _ (by show _ ≠ w.heap.size + 1 + 1; omega)).trans (hb12.block _ (by omega)), (Below.heap_setCell w1 _ _ _ (by show _ ≠ w.heap.size + 1 + 1; omega)).trans (hb12.block _ (by omega))⟩, ?_⟩
      exact ⟨_, d ++ [(yf, yo, yt)], Boxed.set _ HV1.out, hox1, HNO.out, by rw [List.length_append, List.length_append, HLN.out]; rfl,
        Boxed.other ((hb12.block _ (by omega)).trans HK0.out) (by omega) _, Boxed.other ((hb12.block _ (by omega)).trans HK1.out) (by omega) _,
        (HB.out.trans (hb12.mono (by omega))).setCell (p := ⟨w.heap.size + 1 + 1, 0, none⟩) (by show _ ≤ w.heap.size + 1 + 1; omega) _, by simp [World.setCell]; omega, h6⟩
  case done =>
    rintro xs W hS ⟨v, d, k2, hox, hf, hl, k0, k1, hb, hz, h6⟩ hK
    have hfs : termsW (wordsAns s.data.toList) = some d := by unfold wordsAns; rw [if_neg h0, ← hS]; exact hf
    have hln : d.length = (splitL s.data.toList).length := by rw [hl]; have := congrArg List.length hS; simpa [plainW] using this
    obtain ⟨f1, f3⟩ := termsW_fit (B := s.size) (plainW xs) (fun l hl => by
      obtain ⟨x, _, rfl⟩ := List.mem_map.1 hl
      simpa using x.2) d hf
    have hfit : FitM d := ⟨by unfold maxLen; omega, fun x hx => by
      obtain ⟨a1, a2, a3, a4⟩ := f3 x hx
      refine ⟨?_, ?_, by omega, by omega⟩
      · unfold maxLen; omega
      · unfold maxLen; omega⟩
    have hnm := pnorm_any v d W (Kind.own_is hox) hfit
    have HNM : Hid (Calls Tryz.prog 5 #[v] W fun e w' => ∃ p n c, e = .returned (.tuple #[.slice p n c, .int .i64 (mayM d)]) ∧ KM.Own W.heap.size w' (.slice p n c) (ansM d) ∧ Below W.heap.size W w') := hnm.mono (by
      rintro e w' ⟨⟨u, rfl, ho⟩, hb'⟩
      obtain ⟨p, c, rfl⟩ := Kind.own_shape ho
      exact ⟨p, _, c, rfl, ho, hb'⟩)
    have HAN : Hid (codeW (some d) = mayM d ∧ ansW (some d) = ansM d) := ⟨rfl, rfl⟩
    obtain ⟨k, hk⟩ : ∃ k, mayM d = k := ⟨_, rfl⟩
    rw [hk] at HNM HAN
    obtain ⟨c2, _⟩ := one_facts k2
    have HK0 := hid k0
    have HK1 := hid k1
    have HB := hid hb
    have HK := hid hK
    have HFS := hid hfs
    have HN6 := hid hN6
    clear hnm hfit hox hf k0 k1 k2 hK hN6 hb hfs hk
    gi_wp2_with (refine ⟨trivial, ?_⟩; gi_at_call 5; refine (callsIn_wide.2 HNM.out).mono ?_; rintro e W2 ⟨p, n, c, rfl, hans, hb2⟩; obtain ⟨q0, q1⟩ := one_facts ((hb2.block w.heap.size (by omega)).trans HK0.out); obtain ⟨q2, q3⟩ := one_facts ((hb2.block (w.heap.size + 1) (by omega)).trans HK1.out))
    have u0 : Boxed W2 w.heap.size 22 (.slice none 0 0) := (hb2.block w.heap.size (by omega)).trans HK0.out
    have u1 : Boxed W2 (w.heap.size + 1) 25 (.int .i64 0) := (hb2.block (w.heap.size + 1) (by omega)).trans HK1.out
    obtain ⟨W4, hW4⟩ : ∃ W4, (W2.setCell ⟨w.heap.size, 0, none⟩ (.slice p n c)).setCell ⟨w.heap.size + 1, 0, none⟩ (.int .i64 k) = W4 := ⟨_, rfl⟩
    have y0 : Boxed W4 w.heap.size 22 (.slice p n c) := by rw [← hW4]; exact Boxed.other (Boxed.set _ u0) (by omega) _
    have y1 : Boxed W4 (w.heap.size + 1) 25 (.int .i64 k) := by rw [← hW4]; exact Boxed.set _ (Boxed.other u1 (by omega) _)
    have hKD : W4.heap[w3.heap.size]? = some (.deferred (some [])) := by
      rw [← hW4]
      exact (Below.heap_setCell _ _ _ _ (by show _ ≠ w.heap.size + 1; omega)).trans ((Below.heap_setCell _ _ _ _ (by show _ ≠ w.heap.size; omega)).trans ((hb2.block _ (by omega)).trans HK.out))
    have hb4 : Below w.heap.size w W4 := by
      rw [← hW4]
      exact ((HB.out.trans (hb2.mono HB.out.size)).setCell (p := ⟨w.heap.size, 0, none⟩) (Nat.le_refl _) _).setCell (p := ⟨w.heap.size + 1, 0, none⟩) (by show _ ≤ w.heap.size + 1; omega) _
    have ha4 : KM.Own W.heap.size W4 (.slice p n c) (ansM d) := by
      rw [← hW4]
      exact Kind.own_far (Kind.own_far hans (grown_set W2 w.heap.size 0 _) (by omega)) (grown_set _ (w.heap.size + 1) 0 _) (by omega)
    rw [hW4]
    have hsz4 := hb4.size
    have hg5 : W4.grownBy (W4.putObj w3.heap.size (.deferred none)) (some w3.heap.size) := grownBy_putObj' W4 _ _
    have z0 : Boxed (W4.putObj w3.heap.size (.deferred none)) w.heap.size 22 (.slice p n c) := (World.putObj_heap_other (by omega)).trans y0
    have z1 : Boxed (W4.putObj w3.heap.size (.deferred none)) (w.heap.size + 1) 25 (.int .i64 k) := (World.putObj_heap_other (by omega)).trans y1
    have z0c := z0.cell
    have z1c := z1.cell
    refine ⟨by simp, .inl ⟨_, _, rfl, run_takeDeferred hKD, ?_⟩⟩
    refine ⟨.tuple #[.slice p n c, .int .i64 k], by simp [results, Tryz.results7, go_sem, z0c, z1c], ⟨.slice p n c, ?_, ?_⟩, hb4.grown hg5 (by omega) (fun k e => by cases e; omega)⟩
    · rw [HFS.out, HAN.out.1]
    · rw [HFS.out, HAN.out.2]
      exact Kind.own_weak (Kind.own_far ha4 hg5 (by omega)) (by omega)
  case stop =>
    rintro c pre W hSp ⟨rfl, hf, k0, k1, hb, h6⟩ hK
    have HN6 := hid hN6
    clear hN6
    gi_wp2
    have hg5 : W.grownBy (W.putObj w3.heap.size (.deferred none)) (some w3.heap.size) := grownBy_putObj' W _ _
    have z0 : Boxed (W.putObj w3.heap.size (.deferred none)) w.heap.size 22 (.slice none 0 0) := (World.putObj_heap_other (by omega)).trans k0
    have z1 : Boxed (W.putObj w3.heap.size (.deferred none)) (w.heap.size + 1) 25 (.int .i64 4) := (World.putObj_heap_other (by omega)).trans k1
    have z0c := z0.cell
    have z1c := z1.cell
    have hno : termsW (wordsAns s.data.toList) = none := by
      obtain ⟨r, hr⟩ := hSp
      unfold wordsAns
      rw [if_neg h0, ← hr, termsW_append, hf]; rfl
    refine ⟨by simp, .inl ⟨_, _, rfl, run_takeDeferred hK, ?_⟩⟩
    refine ⟨.tuple #[.slice none 0 0, .int .i64 4], by simp [results, Tryz.results7, go_sem, z0c, z1c], ⟨.slice none 0 0, ?_, ?_⟩, hb.grown hg5 hb.size (fun k e => by cases e; omega)⟩
    · rw [hno]; rfl
    · rw [hno]; exact KM.own_nil _ _

theorem pparse_any (s : ByteArray) (w : World) (hp : PlainAt w) (hs : s.size ≤ 4294967000) :
    Calls Tryz.prog 7 #[.string s] w fun e w' => TWPost w (termsW (wordsAns s.data.toList)) e w' := by
  by_cases h0 : s.data.toList = []
  · have e : s = ⟨#[]⟩ := by
      obtain ⟨⟨l⟩⟩ := s
      cases h0
      rfl
    subst e
    exact pparse_empty w
  · exact pparse_words s w hp h0 hs

end Go.Proofs.YtfcjnoojcajljabGreatDoor
