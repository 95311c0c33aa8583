/-
  Texts of this claim, one behind the other: Fix0 Rnm Rnn Sam Fix Ncd App Sze0 Kp0 Gen Trm Rp0 Rp1 Rp2 Pc0 Kst Rfm Ris Kro Xsp Spk Kys Krf Krk Kba Krp Rna.
-/
import Derived.Test.YtinmagodckkedaaPa
import Derived.Deep.CutRange
import Derived.Laws.CopyOwn
import Derived.Maps.AppendAt
import Derived.Laws.StructEq
import Derived.Shelf.SlSortCmp.SmallK
import Derived.Lib.SlicesCompact
import Derived.Lib.SliceRun
import Derived.BigRegion
/-
  The chapter's examples: the plain answers.
-/
namespace Go.Proofs.Ytinmagodckkedaa
open Go.RowKit Go.Sort Go.Lib

def fixA : List Fld := [(⟨#[98]⟩, [⟨#[120]⟩]), (⟨#[97]⟩, [⟨#[121]⟩]), (⟨#[98]⟩, [⟨#[122]⟩])]
def fixN : List Fld := [(⟨#[97]⟩, [⟨#[121]⟩]), (⟨#[98]⟩, [⟨#[120]⟩, ⟨#[122]⟩])]
def fixE : List Fld := [(⟨#[97]⟩, [⟨#[120]⟩, ⟨#[]⟩])]
def fixP : List Fld := [(⟨#[98]⟩, [⟨#[49]⟩]), (⟨#[97]⟩, [⟨#[50]⟩])]
def fixQ : List Fld := [(⟨#[97]⟩, [⟨#[50]⟩]), (⟨#[98]⟩, [⟨#[49]⟩])]

theorem ltN_eq (a b : ByteArray) : ltN a b = ltB a b := by
  unfold ltN ltB
  rw [Lib.toList_data, Lib.toList_data, cb_less]

theorem mayB_eq (fs : List Fld) : mayB fs = (decide (fs.length ≤ 16) && (List.range fs.length).all fun i => fitsB (fs.getD i default) && (decide (i = 0) || ltB (fs.getD (i - 1) default).1 (fs.getD i default).1)) := by
  unfold mayB stepOk
  simp only [ltN_eq]

theorem fixA_mis : fixA.any misB = false := by decide
theorem fixA_norm : normF fixA = fixN := by decide
theorem fixN_bare : fixN.any bareB = false := by decide
theorem fixN_may : mayB fixN = true := by rw [mayB_eq]; decide
theorem fixN_line : lineOf fixN = ⟨#[97, 61, 121, 32, 98, 61, 120, 32, 98, 61, 122]⟩ := by decide
theorem fixE_may : mayB fixE = true := by decide
theorem fixE_enc : encL fixE = [1, 1, 97, 2, 1, 120, 0] := by decide
theorem fixE_dec : decodeO [1, 1, 97, 2, 1, 120, 0] = some fixE := by decide
theorem fixE_size : sizeN fixE = 7 := by decide
theorem fixP_mis : fixP.any misB = false := by decide
theorem fixP_norm : normF fixP = fixQ := by decide
theorem fixQ_bare : fixQ.any bareB = false := by decide
theorem fixQ_may : mayB fixQ = true := by rw [mayB_eq]; decide
theorem fix_write : writeL [97, 32, 98] = [97, 37, 50, 48, 98] := by decide
theorem fix_texts : textsOf fixN ⟨#[98]⟩ = [⟨#[120]⟩, ⟨#[122]⟩] := by decide
theorem fix_read : readL [97, 37, 50, 48, 98] = some [97, 32, 98] := by
  rw [readL_some (c := 97) (n := 1) (by decide)]
  show (readL [37, 50, 48, 98]).map _ = _
  rw [readL_some (c := 32) (n := 3) (by decide)]
  show ((readL [98]).map _).map _ = _
  rw [readL_some (c := 98) (n := 1) (by decide)]
  show (((readL []).map _).map _).map _ = _
  rw [readL_nil]
  rfl
theorem fix_split : splitL [98, 61, 49, 32, 97, 61, 50] = [[98, 61, 49], [97, 61, 50]] := by
  rw [splitL_yes (i := 3) (by decide)]
  show [98, 61, 49] :: splitL [97, 61, 50] = _
  rw [splitL_no (by decide)]
theorem fix_one (c : UInt8) (h : firstP [c] = some (c, 1)) : readL [c] = some [c] := by
  rw [readL_some h]
  show (readL []).map _ = _
  rw [readL_nil]
  rfl
theorem fix_words : fieldsW (splitL [98, 61, 49, 32, 97, 61, 50]) = some fixP := by
  rw [fix_split]
  have h1 : wordO [98, 61, 49] = some ([98], [49]) := by
    unfold wordO
    rw [if_neg (by decide), show (Lib.indexByte [98, 61, 49] 61).toNat = 1 by decide]
    show (readL [49]).map _ = _
    rw [fix_one 49 (by decide)]; rfl
  have h2 : wordO [97, 61, 50] = some ([97], [50]) := by
    unfold wordO
    rw [if_neg (by decide), show (Lib.indexByte [97, 61, 50] 61).toNat = 1 by decide]
    show (readL [50]).map _ = _
    rw [fix_one 50 (by decide)]; rfl
  simp only [fieldsW, h1, h2]
  rfl

end Go.Proofs.Ytinmagodckkedaa

/-
  The contract of the reference's Norm.
-/
namespace Go.Proofs.Ytinmagodckkedaa
open Go.RowKit Go.Lib

def RnSt (w : World) (G : List Fld) (k : Nat) (v : Value) (wr : World) : Prop :=
  ∃ dr, OwnXs w.heap.size wr v dr ∧ dr.map Fx.fld = (G.take (min k 17)).map capF ∧ Below w.heap.size w wr

def RnAns (N : Nat) (fs : List Fld) (e : Ending) (w' : World) : Prop :=
  (fs.any misB = true ∧ e = .returned (.tuple #[.slice none 0 0, .int .i64 2])) ∨
    (fs.any misB = false ∧
     (((normF fs).any bareB = true ∧ e = .returned (.tuple #[.slice none 0 0, .int .i64 3])) ∨
      ((normF fs).any bareB = false ∧ mayB (normF fs) = false ∧ e = .returned (.tuple #[.slice none 0 0, .int .i64 5])) ∨
      ((normF fs).any bareB = false ∧ mayB (normF fs) = true ∧ ∃ u o, e = .returned (.tuple #[u, .int .i64 0]) ∧ OwnXs N w' u o ∧ o.map Fx.fld = normF fs)))
def RnPost (w : World) (fs : List Fld) (e : Ending) (w' : World) : Prop := RnAns w.heap.size fs e w' ∧ Below w.heap.size w w'

theorem mem_txtOf {fs : List Fld} {c t : ByteArray} (h : t ∈ txtOf fs c) : ∃ f ∈ fs, t ∈ f.2 := by
  unfold txtOf at h
  obtain ⟨f, hf, ht⟩ := List.mem_flatMap.1 h
  exact ⟨f, (List.mem_filter.1 hf).1, ht⟩

theorem txtOf_len (fs : List Fld) (c : ByteArray) : (txtOf fs c).length ≤ totF fs := by
  unfold txtOf totF
  induction fs with
  | nil => simp
  | cons f fs ih =>
    rw [List.map_cons, List.sum_cons]
    by_cases e : f.1 = c
    · rw [List.filter_cons_of_pos (by simp [e]), List.flatMap_cons, List.length_append]; omega
    · rw [List.filter_cons_of_neg (by simp [e])]; omega

theorem totF_take (fs : List Fld) (i : Nat) : totF (fs.take i) ≤ totF fs := by
  conv => rhs; rw [← List.take_append_drop i fs, totF_append]
  omega

theorem txtOf_step {d : List Fx} {i : Nat} (h : i < d.length) (c : ByteArray) : txtOf ((d.map Fx.fld).take (i + 1)) c = txtOf ((d.map Fx.fld).take i) c ++ if (d[i]).name = c then (d[i]).txt else [] := by
  rw [List.take_succ_eq_append_getElem (by simpa using h), txtOf_snoc]
  simp [Fx.fld]

theorem scanN_step {d : List Fx} {i : Nat} (h : i < d.length) (last : ByteArray) : scanN last ((d.map Fx.fld).take (i + 1)) =
    if ltB last (d[i]).name && (decide ((scanN last ((d.map Fx.fld).take i)).size = 0) || ltB (d[i]).name (scanN last ((d.map Fx.fld).take i))) then (d[i]).name else scanN last ((d.map Fx.fld).take i) := by
  rw [List.take_succ_eq_append_getElem (by simpa using h), scanN_snoc]
  simp [scanStep, Fx.fld]

theorem mis_all {d : List Fx} (h : ∀ j, (h : j < d.length) → fieldB (d[j]).name.data.toList = true) : (d.map Fx.fld).any misB = false := by
  rw [List.any_eq_false]
  intro f hf
  obtain ⟨x, hx, rfl⟩ := List.mem_map.1 hf
  obtain ⟨j, hj, rfl⟩ := List.mem_iff_getElem.1 hx
  have := h j hj
  simp [misB, Fx.fld, this]

theorem field_ne {l : ByteArray} (h : fieldB l.data.toList = true) : l.size ≠ 0 := by
  intro e
  have : l.data.toList = [] := List.length_eq_zero_iff.1 (by simpa using e)
  rw [this] at h
  revert h
  decide

theorem take9_more {T a b : List ByteArray} (h : 9 ≤ (T ++ a).length) : (T ++ (a ++ b)).take 9 = (T ++ a).take 9 := by
  rw [← List.append_assoc, List.take_append_of_le_length h]

theorem any_snoc {G : List Fld} {k : Nat} (h : k < G.length) : (G.take (k + 1)).any bareB = ((G.take k).any bareB || bareB G[k]) := by
  rw [List.take_succ_eq_append_getElem h, List.any_append]
  simp

theorem cap_snoc {G : List Fld} {k : Nat} (h : k < G.length) (hk : k < 17) : (G.take (min (k + 1) 17)).map capF = (G.take (min k 17)).map capF ++ [capF G[k]] := by
  rw [Nat.min_eq_left (by omega), Nat.min_eq_left (by omega), List.take_succ_eq_append_getElem h, List.map_append]
  rfl

theorem lastOf_succ {G : List Fld} {k : Nat} (h : k < G.length) : lastOf G (k + 1) = (G[k]).1 := by
  unfold lastOf
  rw [if_neg (by omega), Nat.add_sub_cancel, List.getD_eq_getElem?_getD, List.getElem?_eq_getElem h]
  rfl

/-- What the reference holds at its end is small. -/
theorem rn_fit {d dr : List Fx} {k : Nat} (hf : FitX d) (h : dr.map Fx.fld = ((normF (d.map Fx.fld)).take (min k 17)).map capF) : FitX dr := by
  have hg := normF_groups (d.map Fx.fld)
  have hl : dr.length ≤ 17 := by
    have := congrArg List.length h
    rw [List.length_map, List.length_map, List.length_take] at this
    omega
  refine ⟨by unfold maxLen; omega, fun x hx => ?_⟩
  have hm : x.fld ∈ ((normF (d.map Fx.fld)).take (min k 17)).map capF := by rw [← h]; exact List.mem_map.2 ⟨x, hx, rfl⟩
  obtain ⟨g, hgm, e⟩ := List.mem_map.1 hm
  have hgm := List.mem_of_mem_take hgm
  have e1 : x.name = g.1 := (congrArg Prod.fst e).symm
  have e2 : x.txt = g.2.take 9 := (congrArg Prod.snd e).symm
  obtain ⟨f, hfm, ef⟩ := (hg.names g.1).1 ⟨g, hgm, rfl⟩
  obtain ⟨y, hy, rfl⟩ := List.mem_map.1 hfm
  refine ⟨?_, ?_, fun t ht => ?_⟩
  · show x.name.size ≤ maxLen
    rw [e1, ← ef]; exact (hf.2 y hy).1
  · show x.txt.length ≤ maxLen
    rw [e2, List.length_take]; unfold maxLen; omega
  · have ht : t ∈ x.txt := ht
    rw [e2] at ht
    have ht := List.mem_of_mem_take ht
    rw [hg.texts g hgm] at ht
    obtain ⟨f', hf', ht'⟩ := mem_txtOf ht
    obtain ⟨z, hz, rfl⟩ := List.mem_map.1 hf'
    exact (hf.2 z hz).2.2 t ht'

end Go.Proofs.Ytinmagodckkedaa

/-
  The contract of the reference's Norm: the walk.
-/
namespace Go.Proofs.Ytinmagodckkedaa
open Go.RowKit Go.Lib

theorem less_of {a b : ByteArray} {c : Bool} (h : ltB a b = c) : Op.bytesLess a.toList b.toList = c := by
  rw [← h, ← ltN_eq]; rfl

theorem eq_false {a b : ByteArray} (h : a ≠ b) : (a.toList == b.toList) = false := by
  rw [Lib.toList_data, Lib.toList_data, beq_eq_false_iff_ne]
  exact fun e => h (ba_eq e)
theorem eq_true {a b : ByteArray} (h : a = b) : (a.toList == b.toList) = true := by rw [h]; simp

theorem empty_of {a : ByteArray} (h : a.size = 0) : a.toList.isEmpty = true := by
  rw [Lib.toList_data]
  have : a.data.toList = [] := List.length_eq_zero_iff.1 (by simpa using h)
  rw [this]; rfl
theorem nonempty_of {a : ByteArray} (h : a.size ≠ 0) : a.toList.isEmpty = false := by
  rw [Lib.toList_data]
  cases e : a.data.toList with
  | nil => exact absurd (by simpa using congrArg List.length e) h
  | cons _ _ => rfl

end Go.Proofs.Ytinmagodckkedaa

/-
  The contracts of SameTexts, SameFields and Same of the reference.
-/
namespace Go.Proofs.Ytinmagodckkedaa
open Go.RowKit

theorem str_ne {s t : ByteArray} (h : ¬ s = t) : (s.toList == t.toList) = false := by
  rw [Lib.toList_data, Lib.toList_data, beq_eq_false_iff_ne]
  intro e
  apply h
  obtain ⟨⟨s⟩⟩ := s
  obtain ⟨⟨t⟩⟩ := t
  simp at e
  rw [e]

set_option maxHeartbeats 1000000 in
set_option maxRecDepth 100000 in
theorem sameT_any (p q : Option Addr) (cap cap' : Nat) (ts us : List ByteArray) (w : World) (h1 : TxtAt w p ts) (h2 : TxtAt w q us) (hl1 : ts.length ≤ maxLen) :
    Calls Try.prog 29 #[.slice p ts.length cap, .slice q us.length cap'] w fun e w' => e = .returned (.bool (decide (ts = us))) ∧ ∃ n, w' = w.drewN n := by
  unfold maxLen at hl1
  obtain ⟨r, hr⟩ : ∃ r, decide (ts = us) = r := ⟨_, rfl⟩
  rw [hr]
  have HR := hid hr
  have H1 := hid h1
  have H2 := hid h2
  clear hr h1 h2
  by_cases hl : ts.length = us.length
  · have hb : ((ts.length : Int) != (us.length : Int)) = false := by simp [hl]
    have HL := hid hl
    clear hl
    go_enter Try.func29, Try.ntmps29
    go_wp2_with fail
    go_loopg [5] ts.length (fun g vi wr => ∃ i m : Nat, vi = .int .i64 i ∧ i ≤ ts.length ∧ ts.length - i ≤ g ∧ wr = w.drewN m ∧ Hid (∀ j, j < i → ts[j]? = us[j]?))
    case atStart => exact ⟨0, 0, rfl, by omega, by omega, rfl, fun j h => by omega⟩
    case round =>
      obtain ⟨i, m, rfl, hi, hg, rfl, HJ⟩ := hrel
      by_cases hlt : i < ts.length
      · have hlt2 : i < us.length := by rw [← HL.out]; exact hlt
        have i1 : (0 : Int) ≤ ↑i := by omega
        have i2 : (↑i : Int) < ↑ts.length := by omega
        have i3 : (↑i : Int) < ↑us.length := by omega
        rcases H1.out with hn | ⟨b1, o1, rfl, k1⟩
        · rw [hn] at hlt; simp at hlt
        rcases H2.out with hn | ⟨b2, o2, rfl, k2⟩
        · rw [hn] at hlt2; simp at hlt2
        have e1 := k1 i hlt
        have e2 := k2 i hlt2
        have g1 : ts[i]? = some ts[i] := List.getElem?_eq_getElem hlt
        have g2 : us[i]? = some us[i] := List.getElem?_eq_getElem hlt2
        clear k1 k2
        obtain ⟨s, hs⟩ : ∃ s, ts[i] = s := ⟨_, rfl⟩
        obtain ⟨t, ht⟩ : ∃ t, us[i] = t := ⟨_, rfl⟩
        rw [hs] at e1 g1
        rw [ht] at e2 g2
        have G1 := hid g1
        have G2 := hid g2
        clear hs ht g1 g2
        by_cases hst : s = t
        · subst hst
          go_wp2_with fail
          go_quiet (fail)
          go_wp2_with fail
          go_roundg (ts.length - (i + 1))
          case measure => omega
          refine ⟨i + 1, _, by go_num, by omega, by omega, rfl, fun j hj => ?_⟩
          by_cases e : j = i
          · subst e; rw [G1.out, G2.out]
          · exact HJ.out j (by omega)
        · have hne := str_ne hst
          have H0 : Hid (r = false) := HR.out.symm.trans (decide_eq_false fun e => hst (by
            have := G1.out
            rw [e, G2.out] at this
            exact (Option.some.inj this).symm))
          go_wp2_with fail
          go_quiet (fail)
          go_wp2_with fail
          go_ret
          exact ⟨ret_bool H0.out.symm, _, by rw [World.drewN_drewN]⟩
      · have hltz : ¬ (i : Int) < (ts.length : Int) := by omega
        have H0 : Hid (r = true) := HR.out.symm.trans (decide_eq_true (List.ext_getElem? fun j => by
          by_cases hj : j < ts.length
          · exact HJ.out j (by omega)
          · rw [List.getElem?_eq_none (by omega), List.getElem?_eq_none (by have := HL.out; omega)]))
        go_wp2_with fail
        go_ret
        exact ⟨ret_bool H0.out.symm, _, rfl⟩
  · have hb : ((ts.length : Int) != (us.length : Int)) = true := by simp; omega
    have H0 : Hid (r = false) := HR.out.symm.trans (decide_eq_false fun e => hl (by rw [e]))
    go_enter Try.func29, Try.ntmps29
    go_wp2_with fail
    go_ret
    exact ⟨ret_bool H0.out.symm, 0, rfl⟩

theorem TxtAt.draws {w : World} {p : Option Addr} {ts : List ByteArray} (h : TxtAt w p ts) (n : Nat) : TxtAt (w.drewN n) p ts := h

set_option maxHeartbeats 2000000 in
set_option maxRecDepth 100000 in
theorem sameF_any (v u : Value) (d e : List Fx) (w : World) (hv : IsXs w v d) (hu : IsXs w u e) (hf : FitX d) (hg : FitX e) :
    Calls Try.prog 11 #[v, u] w fun r w' => r = .returned (.bool (decide (d.map Fx.fld = e.map Fx.fld))) ∧ ∃ n, w' = w.drewN n := by
  obtain ⟨p, cap, rfl, hd, ht⟩ := hv
  obtain ⟨q, cap', rfl, he, ht'⟩ := hu
  have hl1 := hf.1
  have hl2 := hg.1
  unfold maxLen at hl1 hl2
  have HF := hid hf.2
  have HG := hid hg.2
  have HD := hid hd
  have HE := hid he
  have HT := hid ht
  have HT' := hid ht'
  obtain ⟨r, hr⟩ : ∃ r, decide (d.map Fx.fld = e.map Fx.fld) = r := ⟨_, rfl⟩
  rw [hr]
  have HR := hid hr
  clear hr hd he ht ht' hf hg
  by_cases hl : d.length = e.length
  · have hb : ((d.length : Int) != (e.length : Int)) = false := by simp [hl]
    have HL := hid hl
    clear hl
    go_enter Try.func11, Try.ntmps11
    go_wp2_with fail
    go_loopg [5] d.length (fun g vi wr => ∃ i m : Nat, vi = .int .i64 i ∧ i ≤ d.length ∧ d.length - i ≤ g ∧ wr = w.drewN m ∧ Hid (∀ j, j < i → (d.map Fx.fld)[j]? = (e.map Fx.fld)[j]?))
    case atStart => exact ⟨0, 0, rfl, by omega, by omega, rfl, fun j h => by omega⟩
    case round =>
      obtain ⟨i, m, rfl, hi, hgk, rfl, HJ⟩ := hrel
      by_cases hlt : i < d.length
      · have hlt2 : i < e.length := by rw [← HL.out]; exact hlt
        have i1 : (0 : Int) ≤ ↑i := by omega
        have i2 : (↑i : Int) < ↑d.length := by omega
        have i3 : (↑i : Int) < ↑e.length := by omega
        rcases HD.out with hn | ⟨b1, o1, rfl, k1⟩
        · rw [hn] at hlt; simp at hlt
        rcases HE.out with hn | ⟨b2, o2, rfl, k2⟩
        · rw [hn] at hlt2; simp at hlt2
        obtain ⟨x0, x1⟩ := k1 i hlt
        obtain ⟨y0, y1⟩ := k2 i hlt2
        have g1 : (d.map Fx.fld)[i]? = some (d[i]).fld := by rw [List.getElem?_map, List.getElem?_eq_getElem hlt]; rfl
        have g2 : (e.map Fx.fld)[i]? = some (e[i]).fld := by rw [List.getElem?_map, List.getElem?_eq_getElem hlt2]; rfl
        have fx := HF.out _ (List.getElem_mem hlt)
        have fy := HG.out _ (List.getElem_mem hlt2)
        have tx := HT.out _ (List.getElem_mem hlt)
        have ty := HT'.out _ (List.getElem_mem hlt2)
        clear k1 k2
        obtain ⟨x, hx⟩ : ∃ x, d[i] = x := ⟨_, rfl⟩
        obtain ⟨y, hy⟩ : ∃ y, e[i] = y := ⟨_, rfl⟩
        rw [hx] at x0 x1 g1 fx tx
        rw [hy] at y0 y1 g2 fy ty
        unfold Fx.sl at x1 y1
        have G1 := hid g1
        have G2 := hid g2
        obtain ⟨W, hW⟩ : ∃ W, w.drewN m = W := ⟨_, rfl⟩
        have HC : Hid (∀ n, Calls Try.prog 29 #[.slice x.p x.txt.length x.cap, .slice y.p y.txt.length y.cap] (W.drewN n) fun r w' => r = .returned (.bool (decide (x.txt = y.txt))) ∧ ∃ k, w' = (W.drewN n).drewN k) := fun n => by
          subst hW
          exact sameT_any _ _ _ _ _ _ _ tx ty fx.2.1
        replace x0 : W.cell? ⟨b1, o1 + i * 2, none⟩ = some (.string x.name) := by subst hW; exact x0
        replace x1 : W.cell? ⟨b1, o1 + i * 2 + 1, none⟩ = some (.slice x.p x.txt.length x.cap) := by subst hW; exact x1
        replace y0 : W.cell? ⟨b2, o2 + i * 2, none⟩ = some (.string y.name) := by subst hW; exact y0
        replace y1 : W.cell? ⟨b2, o2 + i * 2 + 1, none⟩ = some (.slice y.p y.txt.length y.cap) := by subst hW; exact y1
        have HW := hid hW
        rw [hW]
        have mixed := Try.mixed
        clear hx hy g1 g2 fx fy tx ty hW
        by_cases hst : x.name = y.name
        · obtain ⟨nm, hnm⟩ : ∃ nm, y.name = nm := ⟨_, rfl⟩
          rw [hst, hnm] at x0
          rw [hnm] at y0
          have HN : Hid (x.name = nm ∧ y.name = nm) := ⟨hst.trans hnm, hnm⟩
          clear hst hnm
          by_cases hts : x.txt = y.txt
          · have hd := decide_eq_true hts
            have HTS := hid hts
            rw [hd] at HC
            clear hd hts
            go_wp2_with fail
            refine wp_region_quiet_lit mixed (by kernel_rfl) ?_
            repeat (go_big_quiet_step (first | (go_at_call 29; refine Calls.quiet_of (HC.out _))))
            refine wpQuiet_nil ?_
            intro _ hw'
            obtain ⟨nq, hw''⟩ := hw'
            subst hw''
            go_wp2_with fail
            go_roundg (d.length - (i + 1))
            case measure => omega
            refine ⟨i + 1, m + nq, by go_num, by omega, by omega, by rw [← HW.out, World.drewN_drewN], fun j hj => ?_⟩
            by_cases ej : j = i
            · subst ej
              rw [G1.out, G2.out]
              unfold Fx.fld
              rw [HN.out.1, HN.out.2, HTS.out]
            · exact HJ.out j (by omega)
          · have hd := decide_eq_false hts
            rw [hd] at HC
            have H0 : Hid (r = false) := HR.out.symm.trans (decide_eq_false fun ee => hts (by
              have := G1.out
              rw [ee, G2.out] at this
              have := congrArg Prod.snd (Option.some.inj this)
              exact this.symm))
            clear hd hts
            go_wp2_with fail
            refine wp_region_quiet_lit mixed (by kernel_rfl) ?_
            repeat (go_big_quiet_step (first | (go_at_call 29; refine Calls.quiet_of (HC.out _))))
            refine wpQuiet_nil ?_
            intro _ hw'
            obtain ⟨nq, hw''⟩ := hw'
            subst hw''
            go_wp2_with fail
            go_ret
            exact ⟨ret_bool H0.out.symm, m + nq, by rw [← HW.out, World.drewN_drewN]⟩
        · have hne := str_ne hst
          have H0 : Hid (r = false) := HR.out.symm.trans (decide_eq_false fun ee => hst (by
            have := G1.out
            rw [ee, G2.out] at this
            have := congrArg Prod.fst (Option.some.inj this)
            exact this.symm))
          go_wp2_with fail
          refine wp_region_quiet_lit mixed (by kernel_rfl) ?_
          repeat (go_big_quiet_step (first | (go_at_call 29; refine Calls.quiet_of (HC.out _))))
          refine wpQuiet_nil ?_
          intro _ hw'
          obtain ⟨nq, hw''⟩ := hw'
          subst hw''
          go_wp2_with fail
          go_ret
          exact ⟨ret_bool H0.out.symm, m + nq, by rw [← HW.out, World.drewN_drewN]⟩
      · have hltz : ¬ (i : Int) < (d.length : Int) := by omega
        have H0 : Hid (r = true) := HR.out.symm.trans (decide_eq_true (List.ext_getElem? fun j => by
          by_cases hj : j < d.length
          · exact HJ.out j (by omega)
          · rw [List.getElem?_eq_none (by simp; omega), List.getElem?_eq_none (by have := HL.out; simp; omega)]))
        go_wp2_with fail
        go_ret
        exact ⟨ret_bool H0.out.symm, _, rfl⟩
  · have hb : ((d.length : Int) != (e.length : Int)) = true := by simp; omega
    have H0 : Hid (r = false) := HR.out.symm.trans (decide_eq_false fun ee => hl (by have := congrArg List.length ee; simpa using this))
    go_enter Try.func11, Try.ntmps11
    go_wp2_with fail
    go_ret
    exact ⟨ret_bool H0.out.symm, 0, rfl⟩

end Go.Proofs.Ytinmagodckkedaa

/-
  fixed answers true.
-/
namespace Go.Proofs.Ytinmagodckkedaa
open Go.RowKit Go.Sort Go.Lib

theorem fitF_small (fs : List Fld) (h : fs.all (fun f => decide (f.1.size ≤ 100) && decide (f.2.length ≤ 100) && f.2.all fun t => decide (t.size ≤ 100)) = true) : ∀ f ∈ fs, FitF f := by
  intro f hf
  rw [List.all_eq_true] at h
  have := h f hf
  simp only [Bool.and_eq_true, decide_eq_true_eq, List.all_eq_true] at this
  exact ⟨Nat.le_trans this.1.1 (by decide), Nat.le_trans this.1.2 (by decide), fun t ht => Nat.le_trans (this.2 t ht) (by decide)⟩

theorem fitFx {d : List Fx} {fs : List Fld} (h : d.map Fx.fld = fs) (hl : fs.length ≤ 100) (hf : ∀ f ∈ fs, FitF f) : FitX d := by
  subst h
  rw [List.length_map] at hl
  exact ⟨Nat.le_trans hl (by decide), fun x hx => hf _ (List.mem_map.2 ⟨x, hx, rfl⟩)⟩

theorem fixA_fit : ∀ f ∈ fixA, FitF f := fitF_small _ (by decide)
theorem fixN_fit : ∀ f ∈ fixN, FitF f := fitF_small _ (by decide)
theorem fixE_fit : ∀ f ∈ fixE, FitF f := fitF_small _ (by decide)
theorem fixQ_fit : ∀ f ∈ fixQ, FitF f := fitF_small _ (by decide)

/-- What an answer of Norm or Parse is known by. -/
def OwnAns (w : World) (fs : List Fld) (n : Nat) (e : Ending) (w' : World) : Prop :=
  ∃ p c d, e = .returned (.tuple #[.slice p n c, .int .i64 0]) ∧ OwnXs w.heap.size w' (.slice p n c) d ∧ d.map Fx.fld = fs ∧ Below w.heap.size w w'

theorem own_len {n0 : Nat} {w : World} {u : Value} {d : List Fx} (h : OwnXs n0 w u d) : ∃ p c, u = .slice p d.length c := by
  rcases h.1.2 with ⟨rfl, h0⟩ | ⟨g, cap, cur, rfl, _⟩
  · exact ⟨none, 0, by rw [h0]⟩
  · exact ⟨_, _, rfl⟩

theorem ownAns_of {w w' : World} {u : Value} {d : List Fx} {fs : List Fld} {n : Nat} (hn : fs.length = n) (ho : OwnXs w.heap.size w' u d) (hm : d.map Fx.fld = fs) (hb : Below w.heap.size w w') : OwnAns w fs n (.returned (.tuple #[u, .int .i64 0])) w' := by
  obtain ⟨p, c, rfl⟩ := own_len ho
  have e : d.length = n := by rw [← hn, ← hm, List.length_map]
  rw [e] at ho ⊢
  exact ⟨p, c, d, rfl, ho, hm, hb⟩

theorem own_rest {n0 : Nat} {w : World} {g c : Nat} {l : List UInt8} (h : OwnB n0 w (.slice (some ⟨g, 0, none⟩) l.length c) l) : RestAt w.heap.size w (.slice (some ⟨g, 0, none⟩) l.length c) l := by
  rcases h.2 with ⟨hv, _⟩ | ⟨g', cap, cur, hv, _, hg, hc, hcm, hsz, htk⟩
  · cases hv
  · cases hv
    refine ⟨_, _, rfl, by omega, by omega, Or.inr ⟨g, 0, rfl, (Array.getElem?_eq_some_iff.1 hg).1, fun i hi => ?_⟩⟩
    rw [Nat.zero_add, cell_of_row w g i cur _ _ hg]
    have : (Lib.byteCells l)[i]? = cur.toList[i]? := by
      rw [← htk, List.getElem?_take, if_pos (by omega)]
    rw [← Array.getElem?_toList, ← this]
    simp [Lib.byteCells, hi]

theorem lit_row {w : World} {b : Nat} {cs : Array Value} {T : TypeId} {d : List Fx} {n cap : Nat} (h : w.heap[b]? = some (.cells cs T (0, 0))) (hcs : cs.toList = cellsX d) (hn : n = d.length) (ht : ∀ x ∈ d, x.at w) : IsXs w (.slice (some ⟨b, 0, none⟩) n cap) d := by
  subst hn
  refine ⟨_, _, rfl, Or.inr ⟨b, 0, rfl, fun i hi => ?_⟩, ht⟩
  obtain ⟨c0, c1⟩ := cellsX_get d i hi
  rw [Nat.zero_add, cell_of_row w b _ cs _ _ h, cell_of_row w b _ cs _ _ h, ← Array.getElem?_toList, ← Array.getElem?_toList, hcs]
  exact ⟨c0, c1⟩

theorem lit_txt {w : World} {b : Nat} {cs : Array Value} {T : TypeId} {ts : List ByteArray} (h : w.heap[b]? = some (.cells cs T (0, 0))) (hcs : cs.toList = ts.map Value.string) : TxtAt w (some ⟨b, 0, none⟩) ts := by
  refine Or.inr ⟨b, 0, rfl, fun i hi => ?_⟩
  rw [Nat.zero_add, cell_of_row w b i cs _ _ h, ← Array.getElem?_toList, hcs]
  simp [hi]

end Go.Proofs.Ytinmagodckkedaa

/-
  What Norm answers, by the fields alone: the program's and the reference's.
-/
namespace Go.Proofs.Ytinmagodckkedaa
open Go.RowKit Go.Lib

/-- What Norm answers: the number, and the fields. -/
def codeF (fs : List Fld) : Int := if fs.any misB then 2 else if (normF fs).any bareB then 3 else if mayB (normF fs) then 0 else 5
def ansF (fs : List Fld) : List Fld := if codeF fs = 0 then normF fs else []

theorem codeF_zero {fs : List Fld} (h : codeF fs = 0) : fs.any misB = false ∧ (normF fs).any bareB = false ∧ mayB (normF fs) = true := by
  unfold codeF at h
  cases h1 : fs.any misB with
  | true => rw [h1] at h; simp at h
  | false =>
    cases h2 : (normF fs).any bareB with
    | true => rw [h1, h2] at h; simp at h
    | false =>
      cases h3 : mayB (normF fs) with
      | true => exact ⟨rfl, rfl, rfl⟩
      | false => rw [h1, h2, h3] at h; simp at h

theorem may_fit {d : List Fx} {fs : List Fld} (hmay : mayB fs = true) (hm : d.map Fx.fld = fs) : FitX d := by
  have hl := (may_parts hmay).1
  refine ⟨?_, fun x hx => ?_⟩
  · rw [← hm, List.length_map] at hl
    unfold maxLen; omega
  · have hx' : x.fld ∈ fs := by rw [← hm]; exact List.mem_map.2 ⟨x, hx, rfl⟩
    obtain ⟨h1, _, h3, h4, _⟩ := fits_parts (may_fits hmay _ hx')
    refine ⟨?_, ?_, fun t ht => ?_⟩
    · unfold maxLen; omega
    · unfold maxLen; omega
    · have := h4 t ht; unfold maxLen; omega

theorem ans_fit {d : List Fx} {fs : List Fld} (hm : d.map Fx.fld = ansF fs) : FitX d := by
  unfold ansF at hm
  split at hm
  · rename_i h
    exact may_fit (codeF_zero h).2.2 hm
  · rw [List.map_eq_nil_iff] at hm
    subst hm
    exact ⟨by unfold maxLen; simp, fun x hx => by simp at hx⟩

def NPost (w : World) (fs : List Fld) (e : Ending) (w' : World) : Prop :=
  (∃ u o, e = .returned (.tuple #[u, .int .i64 (codeF fs)]) ∧ OwnXs w.heap.size w' u o ∧ o.map Fx.fld = ansF fs) ∧ Below w.heap.size w w'

theorem own_none (N : Nat) (w : World) : OwnXs N w (.slice none 0 0) [] := ⟨World.ownsRow_nil _ _ _ _, fun x hx => by simp at hx⟩

theorem ansPlain {N : Nat} {fs : List Fld} {e : Ending} {w' : World}
    (h : (fs.any misB = true ∧ e = .returned (.tuple #[.slice none 0 0, .int .i64 2])) ∨
    (fs.any misB = false ∧
     (((normF fs).any bareB = true ∧ e = .returned (.tuple #[.slice none 0 0, .int .i64 3])) ∨
      ((normF fs).any bareB = false ∧ mayB (normF fs) = false ∧ e = .returned (.tuple #[.slice none 0 0, .int .i64 5])) ∨
      ((normF fs).any bareB = false ∧ mayB (normF fs) = true ∧ ∃ u o, e = .returned (.tuple #[u, .int .i64 0]) ∧ OwnXs N w' u o ∧ o.map Fx.fld = normF fs)))) :
    ∃ u o, e = .returned (.tuple #[u, .int .i64 (codeF fs)]) ∧ OwnXs N w' u o ∧ o.map Fx.fld = ansF fs := by
  rcases h with ⟨h1, rfl⟩ | ⟨h1, ⟨h2, rfl⟩ | ⟨h2, h3, rfl⟩ | ⟨h2, h3, u, o, rfl, ho, hm⟩⟩
  · have hc : codeF fs = 2 := by unfold codeF; rw [h1]; rfl
    exact ⟨_, [], by rw [hc], own_none _ _, by unfold ansF; rw [hc]; rfl⟩
  · have hc : codeF fs = 3 := by unfold codeF; rw [h1, h2]; rfl
    exact ⟨_, [], by rw [hc], own_none _ _, by unfold ansF; rw [hc]; rfl⟩
  · have hc : codeF fs = 5 := by unfold codeF; rw [h1, h2, h3]; rfl
    exact ⟨_, [], by rw [hc], own_none _ _, by unfold ansF; rw [hc]; rfl⟩
  · have hc : codeF fs = 0 := by unfold codeF; rw [h1, h2, h3]; rfl
    exact ⟨u, o, by rw [hc], ho, by unfold ansF; rw [hc]; exact hm⟩

end Go.Proofs.Ytinmagodckkedaa

/-
  An append of a row that came in, whatever its length; a row of fields whose texts lie elsewhere.
-/
namespace Go.Proofs.Ytinmagodckkedaa
open Go.RowKit Go.Lib

theorem grownBy_refl (w : World) (g : Option Nat) : w.grownBy w g := ⟨rfl, rfl, rfl, Nat.le_refl _, fun _ _ _ => rfl⟩

theorem wpList_append_rows {ops : Array Oper} {rest : List Oper} {o : Oper} {a : Act} {Q : Exit → Act → World → Prop} (w : World) (hgd : o.guard = none) (s x : Operand) (t : TypeId)
    (ho : o.op = .call { callee := .builtin .append, args := #[s, x], argTypes := #[t, t] })
    (base : Nat) (e : TypeId) (i : TypeInfo) (z : Value) (size bytes : Nat) (ht : Try.prog.underlying t = some (.slice e)) (hi : Try.prog.info? e = some i) (hz : i.zero = some z)
    (hsize : i.size = size) (hby : i.bytes = bytes) (hzs : z.cells.size = size) (hsz : 0 < size)
    (v : Value) (n : Nat) (xs : List Value) (hs : a.eval s = v) (hown : w.ownsRow base e size v n xs)
    (p : Option Addr) (m c : Nat) (news : List Value) (hx : a.eval x = .slice p m c) (hl : news.length = m * size)
    (hsrc : m = 0 ∨ ∃ ad, p = some ad ∧ ∀ j u, news[j]? = some u → w.cell? (ad.add j) = some u) (h1 : ∀ u ∈ news, u.oneCell' = true)
    (h63 : n + m ≤ maxLen) (hbytes : (n + m) * bytes ≤ 140737488355328) (hbase : base ≤ w.heap.size)
    (h : ∀ v' w', w'.ownsRow base e size v' (n + m) (xs ++ news) → w.grownBy w' v.ownBlock → wpList Try.prog ops Q rest (a.put o.dst v') w') :
    wpList Try.prog ops Q (o :: rest) a w := by
  rcases hsrc with rfl | ⟨ad, rfl, hc⟩
  · have hn : news = [] := List.length_eq_zero_iff.1 (by simpa using hl)
    subst hn
    obtain ⟨q, cap, hv, hcap, hq⟩ : ∃ q cap, v = .slice q n cap ∧ n ≤ cap ∧ (q = none → n = 0 ∧ cap = 0) := by
      rcases hown.2 with ⟨hv, h0⟩ | ⟨g, cap, cur, hv, _, _, hc, _⟩
      · exact ⟨none, 0, by rw [hv, h0], by omega, fun _ => ⟨h0, rfl⟩⟩
      · exact ⟨_, cap, hv, hc, fun h => by cases h⟩
    have hrun : (Builtin.append_ #[t, t] o.type #[.slice q n cap, .slice p 0 c]).run Try.prog w = .ok (.slice q n cap) w := by
      cases q with
      | none =>
        obtain ⟨rfl, rfl⟩ := hq rfl
        cases p <;> simp [Builtin.append_, run_underlying ht, Builtin.lenOf, Builtin.firstCells, sizeOf, typeInfo, hi, loadCells, loadCellsFrom]
      | some q =>
        cases p <;> simp [Builtin.append_, run_underlying ht, Builtin.lenOf, Builtin.firstCells, sizeOf, typeInfo, hi, storeCells, loadCells, loadCellsFrom, hcap]
    rw [hv] at hs
    refine wpList_plain hgd fun K hK' => ?_
    unfold Oper.wp
    simp [execOp, ho, resolve, invoke, builtin, hs, hx, hrun, Result.andThen]
    refine hK' _ _ (h _ _ ?_ (grownBy_refl _ _))
    rw [← hv, List.append_nil]
    exact hown
  · exact wpList_append_own _ hgd s x t ho base e i z size bytes ht hi hz hsize hby hzs hsz v n xs hs hown ad m c news hx hl hc h1 h63 hbytes hbase (fun v' w' h2 h3 _ => h v' w' h2 h3)

/-- v owns a row of the fields d, in a block at or behind n0; their texts lie anywhere. -/
def RowX (n0 : Nat) (w : World) (v : Value) (d : List Fx) : Prop := w.ownsRow n0 38 2 v d.length (cellsX d)

theorem RowX.is {n0 : Nat} {w : World} {v : Value} {d : List Fx} (h1 : RowX n0 w v d) (h2 : ∀ x ∈ d, x.at w) : IsXs w v d := by
  rcases h1.2 with ⟨rfl, h0⟩ | ⟨g, c, cur, rfl, _, hg, _, _, hsz, htk⟩
  · obtain rfl := List.length_eq_zero_iff.1 h0
    exact ⟨none, 0, rfl, Or.inl rfl, fun x hx => by simp at hx⟩
  · refine ⟨_, c, rfl, Or.inr ⟨g, 0, rfl, fun i hi => ?_⟩, h2⟩
    obtain ⟨c0, c1⟩ := cellsX_get d i hi
    have e : ∀ j, j < d.length * 2 → (cellsX d)[j]? = cur[j]? := fun j hj => by
      rw [← htk, List.getElem?_take, if_pos hj, Array.getElem?_toList]
    rw [Nat.zero_add, cell_of_row w g _ cur _ _ hg, cell_of_row w g _ cur _ _ hg, ← e _ (by omega), ← e _ (by omega)]
    exact ⟨c0, c1⟩

/-- What a slice of fields gives an append. -/
theorem src_xs {w : World} {p : Option Addr} {d : List Fx} (h : d = [] ∨ ∃ b off, p = some ⟨b, off, none⟩ ∧ XsAt w b off d) :
    d.length = 0 ∨ ∃ ad, p = some ad ∧ ∀ j u, (cellsX d)[j]? = some u → w.cell? (ad.add j) = some u := by
  rcases h with rfl | ⟨b, off, rfl, hx⟩
  · exact Or.inl rfl
  · refine Or.inr ⟨_, rfl, fun j u hu => ?_⟩
    have hj : j < d.length * 2 := by
      have := (List.getElem?_eq_some_iff.1 hu).1
      rwa [cellsX_len] at this
    have hk : j / 2 < d.length := by omega
    obtain ⟨c0, c1⟩ := cellsX_get d (j / 2) hk
    obtain ⟨m0, m1⟩ := hx (j / 2) hk
    rw [addr_add]
    by_cases e : j % 2 = 0
    · have ej : j = j / 2 * 2 := by omega
      rw [ej] at hu ⊢
      rw [c0] at hu
      rw [m0]; exact hu
    · have ej : j = j / 2 * 2 + 1 := by omega
      rw [ej] at hu ⊢
      rw [c1] at hu
      rw [← Nat.add_assoc, m1]; exact hu

/-- What a slice of texts gives an append. -/
theorem src_ts {w : World} {p : Option Addr} {ts : List ByteArray} (h : TxtAt w p ts) :
    ts.length = 0 ∨ ∃ ad, p = some ad ∧ ∀ j u, (ts.map Value.string)[j]? = some u → w.cell? (ad.add j) = some u := by
  rcases h with rfl | ⟨b, off, rfl, hx⟩
  · exact Or.inl rfl
  · refine Or.inr ⟨_, rfl, fun j u hu => ?_⟩
    have hj : j < ts.length := by simpa using (List.getElem?_eq_some_iff.1 hu).1
    rw [addr_add, hx j hj]
    rw [List.getElem?_map, List.getElem?_eq_getElem hj] at hu
    exact hu

theorem txts_one (ts : List ByteArray) : ∀ u ∈ ts.map Value.string, u.oneCell' = true := by
  intro u hu
  obtain ⟨t, _, rfl⟩ := List.mem_map.1 hu
  rfl

/-- What the reference's Texts answers. -/
def RtPost (w : World) (ts : List ByteArray) (e : Ending) (w' : World) : Prop := (∃ p c, e = .returned (.slice p ts.length c) ∧ TxtAt w p ts) ∧ w' = w

end Go.Proofs.Ytinmagodckkedaa

/-
  How long a value's bytes are, and how many blanks its line has.
-/
namespace Go.Proofs.Ytinmagodckkedaa
open Go.RowKit Go.Lib

/-- What ValueSizes counts. -/
def cntF (f : Fld) : Nat := 2 + f.1.size + (f.2.map fun t => 1 + t.size).sum
def cntB (fs : List Fld) : Nat := 1 + (fs.map cntF).sum

theorem encTs_len (ts : List ByteArray) : (ts.flatMap encT).length = (ts.map fun t => 1 + t.size).sum := by
  induction ts with
  | nil => rfl
  | cons t ts ih =>
    rw [List.flatMap_cons, List.length_append, encT_len, ih, List.map_cons, List.sum_cons]
    omega

theorem encF_cnt (f : Fld) : (encF f).length = cntF f := by
  unfold encF cntF
  rw [List.length_append, List.length_append, encT_len, encTs_len]
  simp only [List.length_cons, List.length_nil]
  omega

theorem encL_cnt (fs : List Fld) : (encL fs).length = cntB fs := by
  unfold encL cntB
  rw [List.length_cons]
  have : (fs.flatMap encF).length = (fs.map cntF).sum := by
    induction fs with
    | nil => rfl
    | cons f fs ih => rw [List.flatMap_cons, List.length_append, encF_cnt, ih, List.map_cons, List.sum_cons]
  omega

/-- The blanks of a text. -/
def blanks (l : List UInt8) : Nat := l.countP fun c => c == 32

theorem blanks_append (a b : List UInt8) : blanks (a ++ b) = blanks a + blanks b := List.countP_append ..

theorem blanks_join : ∀ ws : List (List UInt8), (∀ w ∈ ws, blanks w = 0) → blanks (Lib.join ws [32]) = ws.length - 1
  | [], _ => rfl
  | [w], h => by
    have := h w (by simp)
    simpa [Lib.join] using this
  | w :: v :: ws, h => by
    have h1 := h w (by simp)
    have ih := blanks_join (v :: ws) (fun x hx => h x (by simp [hx]))
    have e : Lib.join (w :: v :: ws) [32] = w ++ [32] ++ Lib.join (v :: ws) [32] := by simp [Lib.join]
    rw [e, blanks_append, blanks_append, h1, ih]
    simp [blanks]
    omega

theorem field_noblank {l : List UInt8} (h : fieldB l = true) : blanks l = 0 := by
  unfold blanks
  rw [List.countP_eq_zero]
  intro c hc
  unfold fieldB spell at h
  cases l with
  | nil => simp at hc
  | cons x r =>
    simp only [Bool.and_eq_true, List.all_eq_true] at h
    have key : lodB (c.toNat : Int) = true ∨ smallB (c.toNat : Int) = true := by
      rcases List.mem_cons.1 hc with rfl | hc
      · exact Or.inr h.1.2
      · exact Or.inl (h.2 c hc)
    intro e
    have e : c = 32 := by simpa using e
    subst e
    rcases key with k | k
    · revert k; decide
    · revert k; decide

theorem hexd_noblank (k : Nat) (h : k < 16) : (hexd k == 32) = false := by
  have t : ((List.range 16).all fun k => !(hexd k == 32)) = true := by decide
  have := List.all_eq_true.1 t k (List.mem_range.2 h)
  simpa using this

theorem write_noblank (l : List UInt8) : blanks (writeL l) = 0 := by
  induction l with
  | nil => rfl
  | cons c l ih =>
    rw [writeL_cons, blanks_append, ih]
    unfold writeC
    cases hp : plainB (c.toNat : Int) with
    | true =>
      have : (c == 32) = false := by
        rw [beq_eq_false_iff_ne]
        intro e
        subst e
        revert hp; decide
      simp [blanks, this]
    | false =>
      have hc := c.toNat_lt
      simp [blanks, hexd_noblank (c.toNat / 16) (by omega), hexd_noblank (c.toNat % 16) (by omega)]

theorem word_data (n t : ByteArray) : (wordOf n t).data.toList = n.data.toList ++ [61] ++ writeL t.data.toList := by
  unfold wordOf
  obtain ⟨⟨n⟩⟩ := n
  simp

theorem word_noblank {n t : ByteArray} (h : fieldB n.data.toList = true) : blanks (wordOf n t).data.toList = 0 := by
  rw [word_data, blanks_append, blanks_append, field_noblank h, write_noblank]
  rfl

theorem words_cnt (fs : List Fld) : (wordsL fs).length = totF fs := by
  unfold wordsL totF
  induction fs with
  | nil => rfl
  | cons f fs ih => rw [List.flatMap_cons, List.length_append, ih]; simp [wordsF]

theorem line_blanks {fs : List Fld} (h : mayB fs = true) : blanks (lineOf fs).data.toList = totF fs - 1 := by
  unfold lineOf
  show blanks (Lib.join ((wordsL fs).map (·.data.toList)) [32]).toArray.toList = _
  rw [List.toList_toArray, blanks_join, List.length_map, words_cnt]
  intro w hw
  obtain ⟨x, hx, rfl⟩ := List.mem_map.1 hw
  obtain ⟨f, hf, hx⟩ := List.mem_flatMap.1 hx
  obtain ⟨t, _, rfl⟩ := List.mem_map.1 hx
  exact word_noblank (fits_parts (may_fits h f hf)).2.2.2.2

theorem line_empty (fs : List Fld) : (lineOf fs).size = 0 ↔ totF fs = 0 := by
  have e : (lineOf fs).size = (Lib.join ((wordsL fs).map (·.data.toList)) [32]).length := by
    show (Lib.join ((wordsL fs).map (·.data.toList)) [32]).toArray.size = _
    simp
  rw [e, ← words_cnt]
  cases hw : wordsL fs with
  | nil => simp [Lib.join, List.intercalate]
  | cons x r =>
    have hx : x ∈ wordsL fs := by rw [hw]; simp
    obtain ⟨f, hf, hx⟩ := List.mem_flatMap.1 hx
    obtain ⟨t, _, rfl⟩ := List.mem_map.1 hx
    have hl : 0 < (wordOf f.1 t).data.toList.length := by rw [word_data]; simp; omega
    constructor
    · intro h
      exfalso
      cases r with
      | nil =>
        rw [List.map_cons, List.map_nil, Lib.join_one] at h
        omega
      | cons y r =>
        have : Lib.join ((wordOf f.1 t :: y :: r).map (·.data.toList)) [32] = (wordOf f.1 t).data.toList ++ [32] ++ Lib.join ((y :: r).map (·.data.toList)) [32] := by simp [Lib.join]
        rw [this] at h
        simp at h
    · intro h; simp at h

theorem join_size (c : Nat) : ∀ ws : List (List UInt8), (∀ w ∈ ws, w.length ≤ c) → (Lib.join ws [32]).length ≤ ws.length * (c + 1)
  | [], _ => by simp [Lib.join, List.intercalate]
  | [w], h => by
    have := h w (by simp)
    rw [Lib.join_one]
    simp
    omega
  | w :: v :: ws, h => by
    have h1 := h w (by simp)
    have ih := join_size c (v :: ws) (fun x hx => h x (by simp [hx]))
    have e : Lib.join (w :: v :: ws) [32] = w ++ [32] ++ Lib.join (v :: ws) [32] := by simp [Lib.join]
    have e2 : (w :: v :: ws).length * (c + 1) = (v :: ws).length * (c + 1) + (c + 1) := by rw [List.length_cons, Nat.add_mul, Nat.one_mul]
    have e3 : ([32] : List UInt8).length = 1 := rfl
    rw [e, List.length_append, List.length_append, e2, e3]
    omega

theorem line_size {fs : List Fld} (h : mayB fs = true) : (lineOf fs).size ≤ 53504 := by
  have e : (lineOf fs).size = (Lib.join ((wordsL fs).map (·.data.toList)) [32]).length := by
    show (Lib.join ((wordsL fs).map (·.data.toList)) [32]).toArray.size = _
    simp
  have h1 := join_size 417 ((wordsL fs).map (·.data.toList)) (fun w hw => by
    obtain ⟨x, hx, rfl⟩ := List.mem_map.1 hw
    obtain ⟨f, hf, hx⟩ := List.mem_flatMap.1 hx
    obtain ⟨t, ht, rfl⟩ := List.mem_map.1 hx
    simpa using word_len (may_fits h f hf) ht)
  have h2 := wordsL_len (fun f hf => may_fits h f hf) (may_parts h).1
  rw [List.length_map] at h1
  have h3 : (wordsL fs).length * (417 + 1) ≤ 128 * (417 + 1) := Nat.mul_le_mul_right _ h2
  omega

theorem cnt_small {fs : List Fld} (h : mayB fs = true) (i : Nat) : 1 + ((fs.take i).map cntF).sum ≤ 17057 := by
  have h1 : ((fs.take i).map cntF).sum = ((fs.take i).flatMap encF).length := by
    generalize fs.take i = gs
    induction gs with
    | nil => rfl
    | cons f gs ih => rw [List.flatMap_cons, List.length_append, encF_cnt, ← ih, List.map_cons, List.sum_cons]
  have := enc_ahead h i
  omega

theorem tot_small {fs : List Fld} (h : mayB fs = true) (i : Nat) : totF (fs.take i) ≤ 128 := by
  rw [← words_cnt]
  refine wordsL_len (fun f hf => may_fits h f (List.mem_of_mem_take hf)) ?_
  have := (may_parts h).1
  rw [List.length_take]
  omega

end Go.Proofs.Ytinmagodckkedaa

/-
  What ValueKeeps makes and writes: rows with spare room, and fields that are written over.
-/
namespace Go.Proofs.Ytinmagodckkedaa
open Go.RowKit Go.Lib

theorem Try.infoTs : (Try.prog.info? 35).map (fun i => (i.zero, i.size, i.bytes)) = some (some (.slice none 0 0), 1, 24) := by kernel_rfl

def markA : ByteArray := ⟨#[109, 97, 114, 107]⟩

/-- The texts of x lie in a block of their own at or behind N, with two cells of spare room: the mark, and nothing. -/
def RoomAt (N : Nat) (W : World) (x : Fx) : Prop :=
  ∃ g, x.p = some ⟨g, 0, none⟩ ∧ x.cap = x.txt.length + 2 ∧ N ≤ g ∧ W.heap[g]? = some (.cells (x.txt.map Value.string ++ [Value.string markA, Value.string ⟨#[]⟩]).toArray 9 (0, 0))

theorem RoomAt.on {N : Nat} {W W' : World} {x : Fx} (h : RoomAt N W x) (hb : Below W.heap.size W W') : RoomAt N W' x := by
  obtain ⟨g, h1, h2, h3, h4⟩ := h
  exact ⟨g, h1, h2, h3, (hb.block g (Array.getElem?_eq_some_iff.1 h4).1).trans h4⟩

theorem RoomAt.else {N m0 : Nat} {W W' : World} {x : Fx} {e : TypeId} {size : Nat} {u : Value} {m : Nat} {ys : List Value} (h : RoomAt N W x) (hu : W.ownsRow m0 e size u m ys) (hne : e ≠ 9) (hg : W.grownBy W' u.ownBlock) : RoomAt N W' x := by
  obtain ⟨g, h1, h2, h3, h4⟩ := h
  refine ⟨g, h1, h2, h3, (hg.block g (Array.getElem?_eq_some_iff.1 h4).1 fun e2 => ?_).trans h4⟩
  obtain ⟨cs', h5⟩ := own_type hu e2.symm
  rw [h4] at h5
  injection h5 with h5
  injection h5 with _ h5
  exact hne h5.symm

theorem RoomAt.at {N : Nat} {W : World} {x : Fx} (h : RoomAt N W x) : x.at W := by
  obtain ⟨g, h1, _, _, h4⟩ := h
  refine Or.inr ⟨g, 0, h1, fun i hi => ?_⟩
  rw [Nat.zero_add, cell_of_row W g i _ _ _ h4]
  simp [List.getElem?_append, hi]

theorem RoomAt.mark {N : Nat} {W : World} {x : Fx} (h : RoomAt N W x) : ∃ g, x.p = some ⟨g, 0, none⟩ ∧ x.cap = x.txt.length + 2 ∧ W.cell? ⟨g, x.txt.length, none⟩ = some (.string markA) := by
  obtain ⟨g, h1, h2, _, h4⟩ := h
  refine ⟨g, h1, h2, ?_⟩
  rw [cell_of_row W g _ _ _ _ h4]
  simp

/-- What the first loop has made. -/
structure Ins (w : World) (e : List Fx) (vi vr : Value) (W : World) : Prop where
  row : RowX w.heap.size W vi e
  rooms : W.ownsRow w.heap.size 35 1 vr e.length (e.map Fx.sl)
  each : ∀ x ∈ e, RoomAt w.heap.size W x
  bel : Below w.heap.size w W

theorem Ins.on {w W W' : World} {e : List Fx} {vi vr : Value} (h : Ins w e vi vr W) (hb : Below W.heap.size W W') : Ins w e vi vr W' :=
  ⟨own_on h.row hb, own_on h.rooms hb, fun x hx => (h.each x hx).on hb, h.bel.trans (hb.mono h.bel.size)⟩

theorem Ins.is {w W : World} {e : List Fx} {vi vr : Value} (h : Ins w e vi vr W) : IsXs W vi e := h.row.is fun x hx => (h.each x hx).at

/-- The cells of a new room, the texts copied and the mark set. -/
theorem room_cells (ts : List ByteArray) : ((splice (List.replicate (ts.length + 2) (Value.string ⟨#[]⟩)) 0 (ts.map Value.string)).toArray.setIfInBounds ts.length (.string markA)) = (ts.map Value.string ++ [Value.string markA, Value.string ⟨#[]⟩]).toArray := by
  apply Array.toList_inj.1
  rw [Array.toList_setIfInBounds]
  simp only [splice, List.take_zero, List.nil_append, List.length_map, Nat.zero_add, List.drop_replicate]
  rw [show ts.length + 2 - ts.length = 2 by omega, List.set_append_right _ _ (by simp)]
  simp

theorem made_strs (n : Nat) : madeCells (Value.string ⟨#[]⟩).cells ((n + 2) * 1) = (List.replicate (n + 2) (Value.string ⟨#[]⟩)).toArray := by
  apply Array.toList_inj.1
  apply List.ext_getElem
  · simp [madeCells]
  · intro i h1 h2
    simp [madeCells, Value.cells]
    rw [Nat.mod_one]
    rfl

theorem own_same {w w' : World} {n0 : Nat} {e : TypeId} {size : Nat} {v : Value} {n : Nat} {xs : List Value} (h : w.ownsRow n0 e size v n xs) (hk : ∀ k, v.ownBlock = some k → w'.heap[k]? = w.heap[k]?) : w'.ownsRow n0 e size v n xs := by
  refine ⟨h.1, ?_⟩
  rcases h.2 with h2 | ⟨g, cap, cur, hv, h3, h4, h5⟩
  · exact Or.inl h2
  · exact Or.inr ⟨g, cap, cur, hv, h3, (hk g (by rw [hv]; rfl)).trans h4, h5⟩

/-- Blocks ahead of A, and from B up to C, are as they were. -/
structure KeptZ (A B C : Nat) (we W : World) : Prop where
  os : W.os = we.os
  tape : W.tape = we.tape
  output : W.output = we.output
  size : C ≤ W.heap.size
  block : ∀ k, k < C → (k < A ∨ B ≤ k) → W.heap[k]? = we.heap[k]?

def ZoneV (B C : Nat) (v : Value) : Prop := ∀ k, v.ownBlock = some k → k < B ∨ C ≤ k

theorem KeptZ.grown {A B C : Nat} {we W W' : World} {ob : Option Nat} (h : KeptZ A B C we W) (hg : W.grownBy W' ob) (hz : ∀ k, ob = some k → A ≤ k ∧ (k < B ∨ C ≤ k)) : KeptZ A B C we W' :=
  ⟨hg.os.trans h.os, hg.tape.trans h.tape, hg.output.trans h.output, Nat.le_trans h.size hg.size, fun k hk hz2 => (hg.block k (Nat.lt_of_lt_of_le hk h.size) fun e => by
    have := hz k e.symm
    omega).trans (h.block k hk hz2)⟩

theorem grown_alloc (w : World) (o : Obj) : w.grownBy (w.alloc o) none := by
  have := (Below.refl w.heap.size w).alloc (Nat.le_refl _) o
  exact ⟨this.os, this.tape, this.output, this.size, fun k hk _ => this.block k hk⟩

theorem KeptZ.below {A B C : Nat} {we W : World} (h : KeptZ A B C we W) (hAC : A ≤ C) (hC : we.heap.size ≤ C) : Below A we W :=
  ⟨h.os, h.tape, h.output, Nat.le_trans hC h.size, fun k hk => h.block k (by omega) (Or.inl hk)⟩

/-- The fields o, written over in place. -/
structure XSt (A B C : Nat) (we : World) (u : Value) (o : List Fx) (W : World) : Prop where
  own : OwnJ A W u o
  zu : ZoneV B C u
  zo : ∀ x ∈ o, ZoneV B C x.sl
  kept : KeptZ A B C we W

theorem cellsX_set (o : List Fx) (i : Nat) (h : i < o.length) (x : Fx) : cellsX (o.set i x) = ((cellsX o).set (i * 2) (.string x.name)).set (i * 2 + 1) x.sl := by
  induction o generalizing i with
  | nil => simp at h
  | cons y o ih =>
    have e : ∀ z l, cellsX (z :: l) = .string z.name :: z.sl :: cellsX l := fun _ _ => rfl
    cases i with
    | zero => rw [List.set_cons_zero, e, e]; rfl
    | succ i =>
      rw [List.set_cons_succ, e, e, ih i (by simpa using h), show (i + 1) * 2 = i * 2 + 1 + 1 by omega]
      rfl

theorem apart_ne {o : List Fx} (h : Apart o) {i j : Nat} (hi : i < o.length) (hj : j < o.length) (hne : i ≠ j) : (o[i]).sl.ownBlock = none ∨ (o[i]).sl.ownBlock ≠ (o[j]).sl.ownBlock := by
  have hp := List.pairwise_iff_getElem.1 h
  rcases Nat.lt_or_gt_of_ne hne with hl | hl
  · exact hp i j hi hj hl
  · rcases hp j i hj hi hl with h1 | h1
    · rcases hb : (o[i]).sl.ownBlock with _ | k
      · exact Or.inl rfl
      · right; rw [h1]; simp
    · exact Or.inr (Ne.symm h1)

theorem apart_set {o : List Fx} (h : Apart o) {i : Nat} (_hi : i < o.length) {x : Fx} (hx : ∀ j, (hj : j < o.length) → j ≠ i → (o[j]).sl.ownBlock = none ∨ (o[j]).sl.ownBlock ≠ x.sl.ownBlock) : Apart (o.set i x) := by
  have hp := List.pairwise_iff_getElem.1 h
  refine List.pairwise_iff_getElem.2 fun a b ha hb hab => ?_
  rw [List.length_set] at ha hb
  rw [List.getElem_set, List.getElem_set]
  by_cases h1 : i = a
  · subst h1
    rw [if_pos rfl, if_neg (by omega)]
    rcases hx b hb (by omega) with h2 | h2
    · rcases hq : x.sl.ownBlock with _ | k
      · exact Or.inl rfl
      · right; rw [h2]; simp
    · exact Or.inr (Ne.symm h2)
  · rw [if_neg h1]
    by_cases h2 : i = b
    · subst h2
      rw [if_pos rfl]
      exact hx a ha (by omega)
    · rw [if_neg h2]
      exact hp a b ha hb hab

/-- The row of fields u has its block. -/
theorem XSt.shape {A B C : Nat} {we W : World} {u : Value} {o : List Fx} (h : XSt A B C we u o W) (hpos : 0 < o.length) : ∃ g c, u = .slice (some ⟨g, 0, none⟩) o.length c := by
  rcases h.own.1.1.2 with ⟨_, h0⟩ | ⟨g, c, cur, hv, _⟩
  · omega
  · exact ⟨g, c, hv⟩

/-- What can be read of the field i, and that it can be written. -/
theorem XSt.cells {A B C : Nat} {we W : World} {g c n : Nat} {o : List Fx} (h : XSt A B C we (.slice (some ⟨g, 0, none⟩) n c) o W) (hn : o.length = n) {i : Nat} (hi : i < o.length) :
    W.cell? ⟨g, i * 2, none⟩ = some (.string (o[i]).name) ∧ W.cell? ⟨g, i * 2 + 1, none⟩ = some (o[i]).sl ∧ W.frozen? ⟨g, i * 2, none⟩ = false ∧ W.frozen? ⟨g, i * 2 + 1, none⟩ = false := by
  subst hn
  have hrow := h.own.1.1
  obtain ⟨h1, h2⟩ := cellsX_get o i hi
  exact ⟨by rw [hrow.cellAt _ (by omega)]; exact h1, by rw [hrow.cellAt _ (by omega)]; exact h2, hrow.frozenAt _, hrow.frozenAt _⟩

theorem sl_lt {A : Nat} {W : World} {x : Fx} (h : OwnT A W x.sl x.txt) : ∀ k, x.sl.ownBlock = some k → A ≤ k := fun k hk => (World.ownsRow.lt h k hk).1

/-- One text is written over. -/
theorem XSt.wipe {A B C : Nat} {we W : World} {u : Value} {o : List Fx} (h : XSt A B C we u o W) {i : Nat} (hi : i < o.length) {j gt : Nat} (hp : (o[i]).p = some ⟨gt, 0, none⟩) (t : ByteArray) :
    XSt A B C we u (o.set i ⟨(o[i]).name, (o[i]).p, (o[i]).cap, (o[i]).txt.set j t⟩) (W.setCell ⟨gt, j, none⟩ (.string t)) := by
  have hti := h.own.1.2 _ (List.getElem_mem hi)
  have hbi : (o[i]).sl.ownBlock = some gt := by unfold Fx.sl; rw [hp]; rfl
  have hg : W.grownBy (W.setCell ⟨gt, j, none⟩ (.string t)) (o[i]).sl.ownBlock := by rw [hbi]; exact grown_set W gt j _
  have hsl : (⟨(o[i]).name, (o[i]).p, (o[i]).cap, (o[i]).txt.set j t⟩ : Fx).sl = (o[i]).sl := by unfold Fx.sl; simp
  have hnew : OwnT A (W.setCell ⟨gt, j, none⟩ (.string t)) (o[i]).sl ((o[i]).txt.set j t) := by
    have e : (o[i]).sl = .slice (some ⟨gt, 0, none⟩) (o[i]).txt.length (o[i]).cap := by unfold Fx.sl; rw [hp]
    have h1 : W.ownsRow A 9 1 (.slice (some ⟨gt, 0, none⟩) (o[i]).txt.length (o[i]).cap) (o[i]).txt.length ((o[i]).txt.map Value.string) := by rw [← e]; exact hti
    have h2 := (h1.stored j (.string t)).1
    unfold OwnT
    rw [e, List.length_set, List.map_set]
    exact h2
  refine ⟨⟨⟨?_, fun x hx => ?_⟩, ?_⟩, h.zu, fun x hx => ?_, h.kept.grown hg fun k hk => ⟨sl_lt hti k hk, h.zo _ (List.getElem_mem hi) k hk⟩⟩
  · rw [List.length_set, cellsX_set _ _ hi, hsl]
    obtain ⟨c0, c1⟩ := cellsX_get o i hi
    have e1 : ((cellsX o).set (i * 2) (.string (o[i]).name)).set (i * 2 + 1) (o[i]).sl = cellsX o := by
      apply List.ext_getElem?
      intro q
      rw [List.getElem?_set, List.getElem?_set]
      simp only [List.length_set]
      have hl := cellsX_len o
      split
      · rename_i hq; subst hq; rw [if_pos (by omega)]; exact c1.symm
      · split
        · rename_i hq; subst hq; rw [if_pos (by omega)]; exact c0.symm
        · rfl
    rw [e1]
    exact own_else h.own.1.1 hti (by decide) hg
  · obtain ⟨q, hq, rfl⟩ := List.mem_iff_getElem.1 hx
    rw [List.length_set] at hq
    rw [List.getElem_set]
    by_cases e : i = q
    · rw [if_pos e, hsl]; exact hnew
    · rw [if_neg e]
      exact World.ownsRow.kept (h.own.1.2 _ (List.getElem_mem hq)) hg (apart_ne h.own.2 hq hi (by omega))
  · refine apart_set h.own.2 hi fun q hq hne => ?_
    rw [hsl]
    exact apart_ne h.own.2 hq hi hne
  · obtain ⟨q, hq, rfl⟩ := List.mem_iff_getElem.1 hx
    rw [List.length_set] at hq
    rw [List.getElem_set]
    by_cases e : i = q
    · rw [if_pos e, hsl]; exact h.zo _ (List.getElem_mem hi)
    · rw [if_neg e]; exact h.zo _ (List.getElem_mem hq)

/-- The name is written over. -/
theorem XSt.rename {A B C : Nat} {we W : World} {g c n : Nat} {o : List Fx} (h : XSt A B C we (.slice (some ⟨g, 0, none⟩) n c) o W) (hn : o.length = n) {i : Nat} (hi : i < o.length) (nm : ByteArray) :
    XSt A B C we (.slice (some ⟨g, 0, none⟩) n c) (o.set i ⟨nm, (o[i]).p, (o[i]).cap, (o[i]).txt⟩) (W.setCell ⟨g, i * 2, none⟩ (.string nm)) := by
  subst hn
  have hrow := h.own.1.1
  have hg : W.grownBy (W.setCell ⟨g, i * 2, none⟩ (.string nm)) (Value.slice (some ⟨g, 0, none⟩) o.length c).ownBlock := grown_set W g _ _
  have hsl : (⟨nm, (o[i]).p, (o[i]).cap, (o[i]).txt⟩ : Fx).sl = (o[i]).sl := rfl
  refine ⟨⟨⟨?_, fun x hx => ?_⟩, ?_⟩, h.zu, fun x hx => ?_, h.kept.grown hg fun k hk => ⟨(World.ownsRow.lt hrow k hk).1, h.zu k hk⟩⟩
  · have hst := (hrow.stored (i * 2) (.string nm)).1
    rw [List.length_set, cellsX_set _ _ hi, hsl]
    have e1 : ((cellsX o).set (i * 2) (.string nm)).set (i * 2 + 1) (o[i]).sl = (cellsX o).set (i * 2) (.string nm) := by
      apply List.ext_getElem?
      intro q
      rw [List.getElem?_set]
      split
      · rename_i hq
        subst hq
        rw [if_pos (by rw [List.length_set, cellsX_len]; omega), List.getElem?_set_ne (by omega)]
        exact ((cellsX_get o i hi).2).symm
      · rfl
    rw [e1]
    exact hst
  · obtain ⟨q, hq, rfl⟩ := List.mem_iff_getElem.1 hx
    rw [List.length_set] at hq
    rw [List.getElem_set]
    by_cases e : i = q
    · rw [if_pos e]; exact own_else (show W.ownsRow A 9 1 (o[i]).sl (o[i]).txt.length ((o[i]).txt.map Value.string) from h.own.1.2 _ (List.getElem_mem hi)) hrow (by decide) hg
    · rw [if_neg e]; exact own_else (h.own.1.2 _ (List.getElem_mem hq)) hrow (by decide) hg
  · refine apart_set h.own.2 hi fun q hq hne => ?_
    rw [hsl]
    exact apart_ne h.own.2 hq hi hne
  · obtain ⟨q, hq, rfl⟩ := List.mem_iff_getElem.1 hx
    rw [List.length_set] at hq
    rw [List.getElem_set]
    by_cases e : i = q
    · rw [if_pos e, hsl]; exact h.zo _ (List.getElem_mem hi)
    · rw [if_neg e]; exact h.zo _ (List.getElem_mem hq)

/-- A block more, that nobody owns. -/
theorem XSt.alloc {A B C : Nat} {we W : World} {u : Value} {o : List Fx} (h : XSt A B C we u o W) (ob : Obj) : XSt A B C we u o (W.alloc ob) :=
  ⟨h.own.on ((Below.refl _ _).alloc (Nat.le_refl _) _), h.zu, h.zo, h.kept.grown (grown_alloc W ob) fun k hk => by cases hk⟩

/-- The texts have grown by one, and are stored back. -/
theorem XSt.grow {A B C : Nat} {we W W4 : World} {g c n : Nat} {o : List Fx} (h : XSt A B C we (.slice (some ⟨g, 0, none⟩) n c) o W) (hn : o.length = n) {i : Nat} (hi : i < o.length) {p : Option Addr} {m cap : Nat} {ts : List ByteArray}
    (hm : ts.length = m) (hown : W4.ownsRow A 9 1 (.slice p m cap) m (ts.map Value.string)) (hg : W.grownBy W4 (o[i]).sl.ownBlock) (hat : (Value.slice p m cap).ownBlock = (o[i]).sl.ownBlock ∨ (Value.slice p m cap).ownBlock = some W.heap.size) :
    W4.cell? ⟨g, i * 2 + 1, none⟩ = some (o[i]).sl ∧ W4.frozen? ⟨g, i * 2 + 1, none⟩ = false ∧
      XSt A B C we (.slice (some ⟨g, 0, none⟩) n c) (o.set i ⟨(o[i]).name, p, cap, ts⟩) (W4.setCell ⟨g, i * 2 + 1, none⟩ (.slice p m cap)) := by
  subst hn
  subst hm
  have hrow := h.own.1.1
  have hti := h.own.1.2 _ (List.getElem_mem hi)
  have hrow4 : W4.ownsRow A 38 2 (.slice (some ⟨g, 0, none⟩) o.length c) o.length (cellsX o) := own_else hrow hti (by decide) hg
  have hset : W4.grownBy (W4.setCell ⟨g, i * 2 + 1, none⟩ (.slice p ts.length cap)) (Value.slice (some ⟨g, 0, none⟩) o.length c).ownBlock := grown_set W4 g _ _
  have hk4 : KeptZ A B C we W4 := h.kept.grown hg fun k hk => ⟨sl_lt hti k hk, h.zo _ (List.getElem_mem hi) k hk⟩
  have hzn : ZoneV B C (.slice p ts.length cap) := fun k hk => by
    rcases hat with e | e
    · exact h.zo _ (List.getElem_mem hi) k (by rw [← e]; exact hk)
    · have := h.kept.size
      rw [e] at hk
      have : W.heap.size = k := by simpa using hk
      omega
  refine ⟨by rw [hrow4.cellAt _ (by omega)]; exact (cellsX_get o i hi).2, hrow4.frozenAt _, ⟨⟨⟨?_, fun x hx => ?_⟩, ?_⟩, h.zu, fun x hx => ?_, hk4.grown hset fun k hk => ⟨(World.ownsRow.lt hrow k hk).1, h.zu k hk⟩⟩⟩
  · have hst := (hrow4.stored (i * 2 + 1) (.slice p ts.length cap)).1
    rw [List.length_set, cellsX_set _ _ hi]
    have e1 : (cellsX o).set (i * 2) (.string (o[i]).name) = cellsX o := by
      apply List.ext_getElem?
      intro q
      rw [List.getElem?_set]
      split
      · rename_i hq
        subst hq
        rw [if_pos (by rw [cellsX_len]; omega)]
        exact ((cellsX_get o i hi).1).symm
      · rfl
    rw [e1]
    exact hst
  · obtain ⟨q, hq, rfl⟩ := List.mem_iff_getElem.1 hx
    rw [List.length_set] at hq
    rw [List.getElem_set]
    by_cases e : i = q
    · rw [if_pos e]; exact own_else (show W4.ownsRow A 9 1 (.slice p ts.length cap) ts.length (ts.map Value.string) from hown) hrow4 (by decide) hset
    · rw [if_neg e]
      have hy4 : W4.ownsRow A 9 1 (o[q]).sl (o[q]).txt.length ((o[q]).txt.map Value.string) := World.ownsRow.kept (h.own.1.2 _ (List.getElem_mem hq)) hg (apart_ne h.own.2 hq hi (by omega))
      exact own_else hy4 hrow4 (by decide) hset
  · refine apart_set h.own.2 hi fun q hq hne => ?_
    show (o[q]).sl.ownBlock = none ∨ (o[q]).sl.ownBlock ≠ (Value.slice p ts.length cap).ownBlock
    rcases hat with e | e
    · rw [e]; exact apart_ne h.own.2 hq hi hne
    · rcases hb : (o[q]).sl.ownBlock with _ | k
      · exact Or.inl rfl
      · right
        have := (World.ownsRow.lt (h.own.1.2 _ (List.getElem_mem hq)) k hb).2
        rw [e]
        intro e2
        simp at e2; omega
  · obtain ⟨q, hq, rfl⟩ := List.mem_iff_getElem.1 hx
    rw [List.length_set] at hq
    rw [List.getElem_set]
    by_cases e : i = q
    · rw [if_pos e]; exact hzn
    · rw [if_neg e]; exact h.zo _ (List.getElem_mem hq)

/-- What Norm answers, its rows apart. -/
def NJPost (w : World) (fs : List Fld) (e : Ending) (w' : World) : Prop :=
  (∃ u o, e = .returned (.tuple #[u, .int .i64 (codeF fs)]) ∧ OwnJ w.heap.size w' u o ∧ o.map Fx.fld = ansF fs) ∧ Below w.heap.size w w'

theorem own_noneJ (N : Nat) (w : World) : OwnJ N w (.slice none 0 0) [] := ⟨own_none _ _, List.Pairwise.nil⟩

theorem ans_small {fs : List Fld} : ∀ f ∈ ansF fs, f.2.length ≤ 8 := by
  unfold ansF
  split
  · rename_i h
    exact fun f hf => (fits_parts (may_fits (codeF_zero h).2.2 f hf)).2.2.1
  · intro f hf; simp at hf

end Go.Proofs.Ytinmagodckkedaa

/-
  Rows of plain elements, whatever their kind: how they lie in memory, and who owns them.
-/
namespace Go.Proofs.Ytinmagodckkedaa
open Go.RowKit

/-- A kind of element: its type, how many cells it has, and which. -/
structure Kind (α : Type) where
  T : TypeId
  k : Nat
  enc : α → List Value
  len : ∀ x, (enc x).length = k
  pos : 0 < k
  one : ∀ x, ∀ u ∈ enc x, u.oneCell' = true

def Kind.cells {α : Type} (K : Kind α) (d : List α) : List Value := d.flatMap K.enc

theorem Kind.cells_nil {α : Type} (K : Kind α) : K.cells [] = [] := rfl
theorem Kind.cells_one {α : Type} (K : Kind α) (x : α) : K.cells [x] = K.enc x := by simp [Kind.cells]
theorem Kind.cells_append {α : Type} (K : Kind α) (a b : List α) : K.cells (a ++ b) = K.cells a ++ K.cells b := List.flatMap_append
theorem Kind.cells_len {α : Type} (K : Kind α) (d : List α) : (K.cells d).length = d.length * K.k := by
  induction d with
  | nil => simp [Kind.cells]
  | cons x d ih =>
    have e : K.cells (x :: d) = K.enc x ++ K.cells d := rfl
    rw [e, List.length_append, K.len, ih, List.length_cons, Nat.add_mul, Nat.one_mul, Nat.add_comm]

theorem Kind.cells_get {α : Type} (K : Kind α) (d : List α) (i : Nat) (h : i < d.length) (j : Nat) (hj : j < K.k) : (K.cells d)[i * K.k + j]? = (K.enc d[i])[j]? := by
  induction d generalizing i with
  | nil => simp at h
  | cons x d ih =>
    have e : K.cells (x :: d) = K.enc x ++ K.cells d := rfl
    rw [e]
    cases i with
    | zero => rw [Nat.zero_mul, Nat.zero_add, List.getElem?_append_left (by rw [K.len]; exact hj)]; rfl
    | succ i =>
      have hl : (K.enc x).length ≤ (i + 1) * K.k + j := by rw [K.len, Nat.add_mul, Nat.one_mul]; omega
      rw [List.getElem?_append_right hl, K.len]
      have e2 : (i + 1) * K.k + j - K.k = i * K.k + j := by rw [Nat.add_mul, Nat.one_mul]; omega
      rw [e2]
      exact ih i (by simpa using h)

theorem Kind.cells_ones {α : Type} (K : Kind α) (d : List α) : ∀ u ∈ K.cells d, u.oneCell' = true := by
  intro u hu
  obtain ⟨x, _, hx⟩ := List.mem_flatMap.1 hu
  exact K.one x u hx

/-- The elements d lie from off on in block b. -/
def Kind.At {α : Type} (K : Kind α) (w : World) (b off : Nat) (d : List α) : Prop :=
  ∀ i, (h : i < d.length) → ∀ j u, (K.enc d[i])[j]? = some u → w.cell? ⟨b, off + i * K.k + j, none⟩ = some u

/-- v is a slice that holds the elements d. -/
def Kind.Is {α : Type} (K : Kind α) (w : World) (v : Value) (d : List α) : Prop :=
  ∃ p cap, v = .slice p d.length cap ∧ (d = [] ∨ ∃ b off, p = some ⟨b, off, none⟩ ∧ K.At w b off d)

/-- v owns a row of the elements d, in a block at or behind n0. -/
def Kind.Own {α : Type} (K : Kind α) (n0 : Nat) (w : World) (v : Value) (d : List α) : Prop := w.ownsRow n0 K.T K.k v d.length (K.cells d)

theorem Kind.at_kept {α : Type} {K : Kind α} {w w' : World} {b off : Nat} {d : List α} (h : K.At w b off d) (hb : Below w.heap.size w w') : K.At w' b off d :=
  fun i hi j u hu => (hb.cell (p := ⟨b, off + i * K.k + j, none⟩) (cell_block (h i hi j u hu))).trans (h i hi j u hu)

theorem Kind.is_kept {α : Type} {K : Kind α} {w w' : World} {v : Value} {d : List α} (h : K.Is w v d) (hb : Below w.heap.size w w') : K.Is w' v d := by
  obtain ⟨p, cap, rfl, h⟩ := h
  refine ⟨p, cap, rfl, ?_⟩
  rcases h with h | ⟨b, off, hp, h⟩
  · exact Or.inl h
  · exact Or.inr ⟨b, off, hp, K.at_kept h hb⟩

theorem Kind.is_nil {α : Type} (K : Kind α) (w : World) : K.Is w (.slice none 0 0) [] := ⟨none, 0, rfl, Or.inl rfl⟩
theorem Kind.own_nil {α : Type} (K : Kind α) (n0 : Nat) (w : World) : K.Own n0 w (.slice none 0 0) [] := World.ownsRow_nil _ _ _ _

theorem Kind.own_on {α : Type} {K : Kind α} {n0 : Nat} {w w' : World} {v : Value} {d : List α} (h : K.Own n0 w v d) (hb : Below w.heap.size w w') : K.Own n0 w' v d := _root_.Go.Proofs.Ytinmagodckkedaa.own_on h hb
theorem Kind.own_weak {α : Type} {K : Kind α} {n0 n1 : Nat} {w : World} {v : Value} {d : List α} (h : K.Own n0 w v d) (hn : n1 ≤ n0) : K.Own n1 w v d := _root_.Go.Proofs.Ytinmagodckkedaa.own_weak h hn

theorem Kind.own_shape {α : Type} {K : Kind α} {n0 : Nat} {w : World} {v : Value} {d : List α} (h : K.Own n0 w v d) : ∃ p cap, v = .slice p d.length cap := by
  rcases h.2 with ⟨hv, h0⟩ | ⟨g, cap, cur, hv, _⟩
  · exact ⟨none, 0, by rw [hv, h0]⟩
  · exact ⟨_, _, hv⟩

theorem Kind.own_is {α : Type} {K : Kind α} {n0 : Nat} {w : World} {v : Value} {d : List α} (h : K.Own n0 w v d) : K.Is w v d := by
  rcases h.2 with ⟨rfl, h0⟩ | ⟨g, c, cur, rfl, _, hg, _, _, hsz, htk⟩
  · obtain rfl := List.length_eq_zero_iff.1 h0
    exact K.is_nil w
  · refine ⟨_, c, rfl, Or.inr ⟨g, 0, rfl, fun i hi j u hu => ?_⟩⟩
    have hj : j < K.k := by
      have := (List.getElem?_eq_some_iff.1 hu).1
      rwa [K.len] at this
    have hlt : i * K.k + j < d.length * K.k := by
      have h1 : (i + 1) * K.k ≤ d.length * K.k := Nat.mul_le_mul_right _ hi
      rw [Nat.add_mul, Nat.one_mul] at h1
      omega
    rw [Nat.zero_add, cell_of_row w g _ cur _ _ hg, ← Array.getElem?_toList]
    have : (K.cells d)[i * K.k + j]? = cur.toList[i * K.k + j]? := by rw [← htk, List.getElem?_take, if_pos hlt]
    rw [← this, K.cells_get d i hi j hj, hu]

/-- What a slice of elements gives an append. -/
theorem Kind.src {α : Type} {K : Kind α} {w : World} {p : Option Addr} {d : List α} (h : d = [] ∨ ∃ b off, p = some ⟨b, off, none⟩ ∧ K.At w b off d) :
    d.length = 0 ∨ ∃ ad, p = some ad ∧ ∀ j u, (K.cells d)[j]? = some u → w.cell? (ad.add j) = some u := by
  rcases h with rfl | ⟨b, off, rfl, hx⟩
  · exact Or.inl rfl
  · refine Or.inr ⟨_, rfl, fun j u hu => ?_⟩
    have hj : j < d.length * K.k := by
      have := (List.getElem?_eq_some_iff.1 hu).1
      rwa [K.cells_len] at this
    have hk : j / K.k < d.length := (Nat.div_lt_iff_lt_mul K.pos).2 hj
    have hm : j % K.k < K.k := Nat.mod_lt _ K.pos
    have e : j / K.k * K.k + j % K.k = j := by rw [Nat.mul_comm]; exact Nat.div_add_mod j K.k
    have hg := K.cells_get d (j / K.k) hk (j % K.k) hm
    rw [e, hu] at hg
    have := hx (j / K.k) hk (j % K.k) u hg.symm
    rw [addr_add]
    rw [Nat.add_assoc, e] at this
    exact this

/-- A literal row of one element. -/
theorem Kind.news {α : Type} (K : Kind α) (w : World) (x : α) : ∀ j u, (K.cells [x])[j]? = some u → (w.alloc (.cells (K.enc x).toArray K.T)).cell? ((⟨w.heap.size, 0, none⟩ : Addr).add j) = some u := by
  intro j u hu
  rw [K.cells_one] at hu
  rw [addr_add, Nat.zero_add, cell_of_row _ _ _ _ _ _ (heap_alloc_new w _)]
  simpa using hu

theorem Kind.own_snoc {α : Type} {K : Kind α} {n0 : Nat} {w : World} {v : Value} {d : List α} {x : α} {n : Nat} {xs : List Value} (h : w.ownsRow n0 K.T K.k v n xs) (hn : n = d.length + 1) (hx : xs = K.cells d ++ K.cells [x]) : K.Own n0 w v (d ++ [x]) := by
  subst hn hx
  unfold Kind.Own
  rw [K.cells_append, List.length_append]
  exact h

end Go.Proofs.Ytinmagodckkedaa

/-
  The plain mathematics of terms: which may be, their order, and what is normal.
-/
namespace Go.Proofs.Ytinmagodckkedaa
open Go.RowKit

/-- A term: its field's name, its operator, its text. -/
abbrev Tm := ByteArray × Int × ByteArray

def encM (x : Tm) : List Value := [.string x.1, .int .i64 x.2.1, .string x.2.2]

/-- Terms that a machine can hold. -/
def FitM (p : List Tm) : Prop := p.length ≤ maxLen ∧ ∀ x ∈ p, x.1.size ≤ maxLen ∧ x.2.2.size ≤ maxLen ∧ -9223372036854775808 ≤ x.2.1 ∧ x.2.1 ≤ 9223372036854775807

def rightM (x : Tm) : Bool := decide (1 ≤ x.2.1) && decide (x.2.1 ≤ 7) && (decide (x.2.1 < 6) || decide (x.2.2.size = 0))
def namedM (x : Tm) : Bool := fieldB x.1.data.toList
def shortM (x : Tm) : Bool := decide (x.2.2.size ≤ 128)
/-- What May answers. -/
def mayM (p : List Tm) : Int := if 8 < p.length then 5 else if p.all namedM = false then 2 else if p.all rightM = false then 1 else if p.all shortM = false then 5 else 0

/-- The order of terms. -/
def ltM (a b : Tm) : Bool := if a.1 ≠ b.1 then ltB a.1 b.1 else if a.2.1 ≠ b.2.1 then decide (a.2.1 < b.2.1) else ltB a.2.2 b.2.2

theorem ltM_irrefl (a : Tm) : ltM a a = false := by simp [ltM, ltB_irrefl]

theorem ltB_eq_false {a b : ByteArray} (h : ltB a b = true) : a ≠ b := by
  rintro rfl
  rw [ltB_irrefl] at h
  cases h

theorem ltM_cases (a b : Tm) : ltM a b = true ∨ a = b ∨ ltM b a = true := by
  obtain ⟨a1, a2, a3⟩ := a
  obtain ⟨b1, b2, b3⟩ := b
  unfold ltM
  simp only
  by_cases h1 : a1 = b1
  · subst h1
    by_cases h2 : a2 = b2
    · subst h2
      rcases ltB_cases a3 b3 with h | h | h
      · left; simpa using h
      · right; left; rw [h]
      · right; right; simpa using h
    · have h2' : b2 ≠ a2 := fun e => h2 e.symm
      rcases Int.lt_or_gt_of_ne h2 with h | h
      · left; simp [h2, h]
      · right; right; simp [h2', h]
  · have h1' : b1 ≠ a1 := fun e => h1 e.symm
    rcases ltB_cases a1 b1 with h | h | h
    · left; simp [h1, h]
    · exact absurd h h1
    · right; right; simp [h1', h]

theorem ltM_trans {a b c : Tm} (h : ltM a b = true) (k : ltM b c = true) : ltM a c = true := by
  obtain ⟨a1, a2, a3⟩ := a
  obtain ⟨b1, b2, b3⟩ := b
  obtain ⟨c1, c2, c3⟩ := c
  unfold ltM at *
  simp only at *
  by_cases h1 : a1 = b1
  · subst h1
    by_cases k1 : a1 = c1
    · subst k1
      simp only [ne_eq, not_true_eq_false, if_false] at *
      by_cases h2 : a2 = b2
      · subst h2
        by_cases k2 : a2 = c2
        · subst k2
          simp only [not_true_eq_false, if_false] at *
          exact ltB_trans h k
        · simp only [not_true_eq_false, if_false, k2, not_false_eq_true, if_true] at *
          exact k
      · by_cases k2 : b2 = c2
        · subst k2
          simp only [h2, not_false_eq_true, if_true] at *
          exact h
        · simp only [h2, k2, not_false_eq_true, if_true, decide_eq_true_eq] at h k
          have h3 : a2 ≠ c2 := by omega
          simp only [h3, not_false_eq_true, if_true, decide_eq_true_eq]
          omega
    · simp only [ne_eq, k1, not_false_eq_true, if_true] at *
      exact k
  · by_cases k1 : b1 = c1
    · subst k1
      simp only [ne_eq, h1, not_false_eq_true, if_true] at *
      exact h
    · simp only [ne_eq, h1, k1, not_false_eq_true, if_true] at h k
      have h3 : ltB a1 c1 = true := ltB_trans h k
      have h4 : a1 ≠ c1 := ltB_eq_false h3
      simp only [ne_eq, h4, not_false_eq_true, if_true]
      exact h3

theorem ltM_asymm {a b : Tm} (h : ltM a b = true) : ltM b a = false := by
  cases k : ltM b a with
  | false => rfl
  | true =>
    have := ltM_trans h k
    rw [ltM_irrefl] at this
    cases this

theorem ltM_ne {a b : Tm} (h : ltM a b = true) : a ≠ b := by
  rintro rfl
  rw [ltM_irrefl] at h
  cases h

def RisingM (l : List Tm) : Prop := l.Pairwise fun x y => ltM x y = true

/-- Rising lists of the same terms are one. -/
theorem rising_unique : ∀ (a b : List Tm), RisingM a → RisingM b → (∀ x, x ∈ a ↔ x ∈ b) → a = b
  | [], [], _, _, _ => rfl
  | [], y :: b, _, _, h => by have := (h y).2 (by simp); simp at this
  | x :: a, [], _, _, h => by have := (h x).1 (by simp); simp at this
  | x :: a, y :: b, ha, hb, h => by
    have ha' := List.pairwise_cons.1 ha
    have hb' := List.pairwise_cons.1 hb
    have hxy : x = y := by
      rcases List.mem_cons.1 ((h x).1 (by simp)) with e | e
      · exact e
      · rcases List.mem_cons.1 ((h y).2 (by simp)) with e2 | e2
        · exact e2.symm
        · have h1 := hb'.1 x e
          have h2 := ha'.1 y e2
          rw [ltM_asymm h1] at h2
          cases h2
    subst hxy
    congr 1
    refine rising_unique a b ha'.2 hb'.2 fun z => ⟨fun hz => ?_, fun hz => ?_⟩
    · rcases List.mem_cons.1 ((h z).1 (by simp [hz])) with e | e
      · exact absurd e.symm (ltM_ne (ha'.1 z hz))
      · exact e
    · rcases List.mem_cons.1 ((h z).2 (by simp [hz])) with e | e
      · exact absurd e.symm (ltM_ne (hb'.1 z hz))
      · exact e

/-- x put where it belongs, if it isn't there. -/
def insM (x : Tm) : List Tm → List Tm
  | [] => [x]
  | y :: l => if ltM x y then x :: y :: l else if x = y then y :: l else y :: insM x l

/-- The terms, rising, each once. -/
def sortM (p : List Tm) : List Tm := p.foldl (fun acc x => insM x acc) []

theorem mem_insM (x z : Tm) (l : List Tm) : z ∈ insM x l ↔ z = x ∨ z ∈ l := by
  induction l with
  | nil => simp [insM]
  | cons y l ih =>
    unfold insM
    split
    · simp
    · split
      · rename_i h; subst h; simp
      · simp [ih, or_left_comm]

theorem insM_rising (x : Tm) (l : List Tm) (h : RisingM l) : RisingM (insM x l) := by
  induction l with
  | nil => exact List.pairwise_singleton _ _
  | cons y l ih =>
    have h' := List.pairwise_cons.1 h
    unfold insM
    split
    · rename_i hlt
      refine List.pairwise_cons.2 ⟨fun z hz => ?_, h⟩
      rcases List.mem_cons.1 hz with rfl | hz
      · exact hlt
      · exact ltM_trans hlt (h'.1 z hz)
    · rename_i hlt
      split
      · exact h
      · rename_i hne
        refine List.pairwise_cons.2 ⟨fun z hz => ?_, ih h'.2⟩
        rcases (mem_insM x z l).1 hz with rfl | hz
        · rcases ltM_cases z y with h1 | h1 | h1
          · exact absurd h1 hlt
          · exact absurd h1 hne
          · exact h1
        · exact h'.1 z hz

theorem sortM_spec (p : List Tm) : RisingM (sortM p) ∧ ∀ x, x ∈ sortM p ↔ x ∈ p := by
  have : ∀ (l acc : List Tm), RisingM acc → RisingM (l.foldl (fun acc x => insM x acc) acc) ∧ ∀ x, x ∈ l.foldl (fun acc x => insM x acc) acc ↔ x ∈ acc ∨ x ∈ l := by
    intro l
    induction l with
    | nil => intro acc h; exact ⟨h, fun x => by simp⟩
    | cons y l ih =>
      intro acc h
      obtain ⟨h1, h2⟩ := ih (insM y acc) (insM_rising y acc h)
      refine ⟨h1, fun x => ?_⟩
      rw [List.foldl_cons, h2, mem_insM, List.mem_cons]
      constructor
      · rintro ((h | h) | h)
        · exact Or.inr (Or.inl h)
        · exact Or.inl h
        · exact Or.inr (Or.inr h)
      · rintro (h | h | h)
        · exact Or.inl (Or.inr h)
        · exact Or.inl (Or.inl h)
        · exact Or.inr h
  obtain ⟨h1, h2⟩ := this p [] List.Pairwise.nil
  exact ⟨h1, fun x => by rw [sortM, h2]; simp⟩

theorem sortM_unique {p l : List Tm} (h1 : RisingM l) (h2 : ∀ x, x ∈ l ↔ x ∈ p) : l = sortM p :=
  rising_unique _ _ h1 (sortM_spec p).1 fun x => (h2 x).trans ((sortM_spec p).2 x).symm

theorem sortM_len (p : List Tm) : (sortM p).length ≤ p.length := by
  have key : ∀ (x : Tm) (l : List Tm), (insM x l).length ≤ l.length + 1 := by
    intro x l
    induction l with
    | nil => simp [insM]
    | cons y l ih =>
      unfold insM
      split
      · simp
      · split
        · simp
        · simp; omega
  have : ∀ (l acc : List Tm), (l.foldl (fun acc x => insM x acc) acc).length ≤ acc.length + l.length := by
    intro l
    induction l with
    | nil => intro acc; simp
    | cons y l ih =>
      intro acc
      have h1 := ih (insM y acc)
      have h2 := key y acc
      rw [List.foldl_cons, List.length_cons]
      omega
  simpa [sortM] using this p []

theorem mayM_perm {p q : List Tm} (h : ∀ x, x ∈ p ↔ x ∈ q) (hl : p.length ≤ 8) (hm : q.length ≤ 8) : mayM p = mayM q := by
  have key : ∀ f : Tm → Bool, p.all f = q.all f := fun f => by
    rw [Bool.eq_iff_iff, List.all_eq_true, List.all_eq_true]
    exact ⟨fun H x hx => H x ((h x).2 hx), fun H x hx => H x ((h x).1 hx)⟩
  unfold mayM
  rw [if_neg (show ¬ 8 < p.length by omega), key namedM, key rightM, key shortM, if_neg (show ¬ 8 < q.length by omega)]

/-- What Norm answers. -/
def ansM (p : List Tm) : List Tm := if mayM p = 0 then sortM p else []

theorem mayM_zero {p : List Tm} (h : mayM p = 0) : p.length ≤ 8 ∧ p.all namedM = true ∧ p.all rightM = true ∧ p.all shortM = true := by
  unfold mayM at h
  split at h
  · omega
  · rename_i h1
    split at h
    · omega
    · rename_i h2
      split at h
      · omega
      · rename_i h3
        split at h
        · omega
        · rename_i h4
          exact ⟨by omega, by simpa using h2, by simpa using h3, by simpa using h4⟩

end Go.Proofs.Ytinmagodckkedaa

/-
  The contracts of the reference's less, May and Same of terms.
-/
namespace Go.Proofs.Ytinmagodckkedaa
open Go.RowKit

theorem all_snoc {p : List Tm} {f : Tm → Bool} {i : Nat} (h : i < p.length) : (p.take (i + 1)).all f = ((p.take i).all f && f p[i]) := by
  rw [List.take_succ_eq_append_getElem h, List.all_append]
  simp

end Go.Proofs.Ytinmagodckkedaa

/-
  The contracts of the reference's Same and Norm of terms.
-/
namespace Go.Proofs.Ytinmagodckkedaa
open Go.RowKit

/-- May x stand behind the first k of G? -/
def eligB (G : List Tm) (k : Nat) (x : Tm) : Bool := decide (k = 0) || ltM (G.getD (k - 1) default) x

/-- What the scan has found among the first i: where it stands, or -1. -/
def ScanM (G p : List Tm) (k i : Nat) (at_ : Int) : Prop :=
  (at_ = -1 ∧ ∀ j, (h : j < p.length) → j < i → eligB G k p[j] = false) ∨
  (∃ m : Nat, at_ = m ∧ m < i ∧ ∃ hm : m < p.length, eligB G k p[m] = true ∧ ∀ j, (h : j < p.length) → j < i → eligB G k p[j] = true → ltM p[j] p[m] = false)

theorem RisingM.get {o : List Tm} (h : RisingM o) {i j : Nat} (hij : i < j) (hj : j < o.length) : ltM (o[i]'(by omega)) (o[j]) = true :=
  List.pairwise_iff_getElem.1 h i j (by omega) hj hij

theorem elig_ge {G : List Tm} (h : RisingM G) {k m : Nat} (hk : k ≤ G.length) (hm : m < G.length) : eligB G k G[m] = true ↔ k ≤ m := by
  unfold eligB
  constructor
  · intro he
    rw [Bool.or_eq_true] at he
    rcases he with he | he
    · have := of_decide_eq_true he; omega
    · refine Nat.le_of_not_lt fun hlt => ?_
      rw [List.getD_eq_getElem?_getD, List.getElem?_eq_getElem (show k - 1 < G.length by omega)] at he
      by_cases e : m = k - 1
      · subst e
        rw [Option.getD_some, ltM_irrefl] at he
        cases he
      · have := h.get (show m < k - 1 by omega) (by omega)
        rw [Option.getD_some] at he
        rw [ltM_asymm this] at he
        cases he
  · intro hkm
    by_cases h0 : k = 0
    · rw [decide_eq_true h0]; rfl
    · rw [Bool.or_eq_true]
      right
      rw [List.getD_eq_getElem?_getD, List.getElem?_eq_getElem (show k - 1 < G.length by omega), Option.getD_some]
      exact h.get (by omega) hm

theorem scan_end {G p : List Tm} (h1 : RisingM G) (h2 : ∀ x, x ∈ G ↔ x ∈ p) {k : Nat} (hk : k ≤ G.length) {at_ : Int} (hs : ScanM G p k p.length at_) :
    (at_ = -1 ∧ k = G.length) ∨ (∃ m : Nat, at_ = m ∧ ∃ hm : m < p.length, ∃ hg : k < G.length, p[m] = G[k]) := by
  rcases hs with ⟨e, hn⟩ | ⟨m, e, _, hm, he, hl⟩
  · left
    refine ⟨e, ?_⟩
    by_cases hkl : k = G.length
    · exact hkl
    · exfalso
      have hlt : k < G.length := by omega
      obtain ⟨j, hj, ej⟩ := List.mem_iff_getElem.1 ((h2 G[k]).1 (List.getElem_mem hlt))
      have := hn j hj hj
      rw [ej, (elig_ge h1 hk hlt).2 (Nat.le_refl _)] at this
      cases this
  · right
    obtain ⟨a, ha, ea⟩ := List.mem_iff_getElem.1 ((h2 p[m]).2 (List.getElem_mem hm))
    have hka : k ≤ a := by
      rw [← ea] at he
      exact (elig_ge h1 hk ha).1 he
    refine ⟨m, e, hm, by omega, ?_⟩
    by_cases hlt : k < a
    · exfalso
      obtain ⟨j, hj, ej⟩ := List.mem_iff_getElem.1 ((h2 G[k]).1 (List.getElem_mem (by omega)))
      have := hl j hj hj (by rw [ej]; exact (elig_ge h1 hk (by omega)).2 (Nat.le_refl _))
      rw [ej, ← ea, h1.get hlt ha] at this
      cases this
    · obtain rfl : a = k := by omega
      exact ea.symm

theorem scan_zero (G p : List Tm) (k : Nat) : ScanM G p k 0 (-1) := Or.inl ⟨rfl, fun j _ h => by omega⟩

theorem scan_skip {G p : List Tm} {k i : Nat} {a : Int} (h : ScanM G p k i a) (hi : i < p.length) (he : eligB G k p[i] = false) : ScanM G p k (i + 1) a := by
  rcases h with ⟨e, hn⟩ | ⟨m, e, hm1, hm, hme, hl⟩
  · refine Or.inl ⟨e, fun j hj hji => ?_⟩
    by_cases ej : j = i
    · subst ej; exact he
    · exact hn j hj (by omega)
  · refine Or.inr ⟨m, e, by omega, hm, hme, fun j hj hji hje => ?_⟩
    by_cases ej : j = i
    · subst ej; rw [he] at hje; cases hje
    · exact hl j hj (by omega) hje

theorem scan_first {G p : List Tm} {k i : Nat} (h : ScanM G p k i (-1)) (hi : i < p.length) (he : eligB G k p[i] = true) : ScanM G p k (i + 1) (i : Int) := by
  rcases h with ⟨_, hn⟩ | ⟨m, e, _⟩
  · refine Or.inr ⟨i, rfl, by omega, hi, he, fun j hj hji hje => ?_⟩
    by_cases ej : j = i
    · subst ej; exact ltM_irrefl _
    · rw [hn j hj (by omega)] at hje; cases hje
  · omega

theorem scan_less {G p : List Tm} {k i m : Nat} (h : ScanM G p k i (m : Int)) (hi : i < p.length) (hm : m < p.length) (he : eligB G k p[i] = true) (hl : ltM p[i] p[m] = true) : ScanM G p k (i + 1) (i : Int) := by
  rcases h with ⟨e, _⟩ | ⟨m', e, _, _, _, hll⟩
  · omega
  · obtain rfl : m = m' := by omega
    refine Or.inr ⟨i, rfl, by omega, hi, he, fun j hj hji hje => ?_⟩
    by_cases ej : j = i
    · subst ej; exact ltM_irrefl _
    · have := hll j hj (by omega) hje
      cases hc : ltM p[j] p[i] with
      | false => rfl
      | true => rw [ltM_trans hc hl] at this; cases this

theorem scan_keep {G p : List Tm} {k i m : Nat} (h : ScanM G p k i (m : Int)) (hi : i < p.length) (hm : m < p.length) (hl : ltM p[i] p[m] = false) : ScanM G p k (i + 1) (m : Int) := by
  rcases h with ⟨e, _⟩ | ⟨m', e, h1, h2, h3, hll⟩
  · omega
  · obtain rfl : m = m' := by omega
    refine Or.inr ⟨m, rfl, by omega, h2, h3, fun j hj hji hje => ?_⟩
    by_cases ej : j = i
    · subst ej; exact hl
    · exact hll j hj (by omega) hje

theorem scan_is {G p : List Tm} {k i : Nat} {a : Int} (h : ScanM G p k i a) : a = -1 ∨ ∃ m : Nat, a = m ∧ m < p.length := by
  rcases h with ⟨e, _⟩ | ⟨m, e, _, hm, _⟩
  · exact Or.inl e
  · exact Or.inr ⟨m, e, hm⟩

end Go.Proofs.Ytinmagodckkedaa

/-
  The contract of the reference's Norm of terms.
-/
namespace Go.Proofs.Ytinmagodckkedaa
open Go.RowKit

end Go.Proofs.Ytinmagodckkedaa

/-
  Rows of terms: one written over, cut short, sorted; the order as compare has it; what is left of a sorted row without its doubles.
-/
namespace Go.Proofs.Ytinmagodckkedaa
open Go.RowKit Go.Sort Go.Lib

theorem Kind.cells_set {α : Type} (K : Kind α) (d : List α) (i : Nat) (h : i < d.length) (x : α) (j : Nat) : (K.cells (d.set i x))[j]? = if i * K.k ≤ j ∧ j < i * K.k + K.k then (K.enc x)[j - i * K.k]? else (K.cells d)[j]? := by
  by_cases hj : j < d.length * K.k
  · have hkp := K.pos
    have hq : j / K.k < d.length := (Nat.div_lt_iff_lt_mul hkp).2 hj
    have hm : j % K.k < K.k := Nat.mod_lt _ hkp
    have e : j / K.k * K.k + j % K.k = j := by rw [Nat.mul_comm]; exact Nat.div_add_mod j K.k
    have h1 := K.cells_get (d.set i x) (j / K.k) (by simpa using hq) (j % K.k) hm
    have h2 := K.cells_get d (j / K.k) hq (j % K.k) hm
    rw [e] at h1 h2
    rw [h1, h2, List.getElem_set]
    by_cases hi : i = j / K.k
    · rw [if_pos hi, if_pos (by rw [hi]; omega), hi]
      congr 1
      omega
    · rw [if_neg hi, if_neg]
      intro hh
      exact hi ((blk_iff K.k i j hkp).1 hh).symm
  · have h3 : (i + 1) * K.k ≤ d.length * K.k := Nat.mul_le_mul_right _ h
    rw [Nat.add_mul, Nat.one_mul] at h3
    rw [if_neg (by omega), List.getElem?_eq_none (by rw [K.cells_len, List.length_set]; omega), List.getElem?_eq_none (by rw [K.cells_len]; omega)]

theorem grown_sets {g : Nat} (vs : List Value) : ∀ (w w0 : World) (o : Nat), w0.grownBy w (some g) → w0.grownBy (w.setCells g o vs) (some g) := by
  induction vs with
  | nil => intro w w0 o h; exact h
  | cons v vs ih => intro w w0 o h; rw [World.setCells]; exact ih _ _ _ (grown_trans h (grown_set w g o v))

theorem below_sortM {B : Nat} {w0 w : World} (h : Below B w0 w) (hB : B ≤ w.heap.size) (blk off n : Nat) (d : Array Tm) (os : Array Obj) (hb : B ≤ blk) : Below B w0 (sortWorldK encM 3 w blk off n d os) := by
  refine h.trans ⟨rfl, rfl, rfl, ?_, ?_⟩
  · simp [sortWorldK, putRowK]
  · intro k hk
    have hks : k < w.heap.size := by omega
    simp only [sortWorldK, Sort.grow, putRowK, putRow, mapBlock, Sort.ahead]
    rw [Array.getElem?_append_left (by simpa using hks), Array.getElem?_modify, if_neg (by omega)]

/-- What compare answers. -/
def cmpM (x y : Tm) : Int := pairI (Lib.compareBytes x.1.data.toList y.1.data.toList) (pairI (Lib.compareInt x.2.1 y.2.1) (Lib.compareBytes x.2.2.data.toList y.2.2.data.toList))

theorem pairI_zero (y : Int) : pairI 0 y = y := rfl
theorem pairI_ne {x : Int} (h : x ≠ 0) (y : Int) : pairI x y = x := by unfold pairI; rw [if_neg h]

theorem cmpM_lt (x y : Tm) : ltOf cmpM x y = ltM x y := by
  obtain ⟨a1, a2, a3⟩ := x
  obtain ⟨b1, b2, b3⟩ := y
  show decide (pairI (Lib.compareBytes a1.data.toList b1.data.toList) (pairI (Lib.compareInt a2 b2) (Lib.compareBytes a3.data.toList b3.data.toList)) < 0) = if a1 ≠ b1 then ltB a1 b1 else if a2 ≠ b2 then decide (a2 < b2) else ltB a3 b3
  by_cases h1 : a1 = b1
  · subst h1
    rw [if_neg (show ¬ (a1 ≠ a1) by simp), cb_self, pairI_zero]
    by_cases h2 : a2 = b2
    · subst h2
      have hc : Lib.compareInt a2 a2 = 0 := by unfold Lib.compareInt; simp
      rw [if_neg (show ¬ (a2 ≠ a2) by simp), hc, pairI_zero]
      rfl
    · rw [if_pos h2]
      rcases Int.lt_or_gt_of_ne h2 with h | h
      · have hc : Lib.compareInt a2 b2 = -1 := by unfold Lib.compareInt; simp [h]
        rw [hc, pairI_ne (by decide)]
        simp [h]
      · have hn : ¬ a2 < b2 := by omega
        have hc : Lib.compareInt a2 b2 = 1 := by unfold Lib.compareInt; simp [hn, h]
        rw [hc, pairI_ne (by decide)]
        simp [hn]
  · have hc : Lib.compareBytes a1.data.toList b1.data.toList ≠ 0 := fun e => h1 (ba_eq ((cb_zero _ _).1 e))
    rw [if_pos h1, pairI_ne hc]
    rfl

theorem swoM : SWO (ltOf cmpM) where
  irrefl x := by rw [cmpM_lt]; exact ltM_irrefl x
  trans x y z h1 h2 := by rw [cmpM_lt] at *; exact ltM_trans h1 h2
  ntrans x y z h1 h2 := by
    rw [cmpM_lt] at *
    cases h : ltM x z with
    | false => rfl
    | true =>
      rcases ltM_cases x y with h3 | h3 | h3
      · rw [h1] at h3; cases h3
      · rw [h3, h2] at h; cases h
      · rw [ltM_trans h3 h] at h2; cases h2

/-- A sorted row without its doubles is rising. -/
theorem compact_sorted {d : Array Tm} (hs : SortedIn (ltOf cmpM) 0 d.size d) : RisingM (compactUpTo d d.size) ∧ ∀ x, x ∈ compactUpTo d d.size ↔ x ∈ d.toList := by
  have hle : ∀ i j, i ≤ j → j < d.size → ltM d[j]! d[i]! = false := by
    intro i j hij hj
    rcases Nat.lt_or_ge i j with h | h
    · have := hs i j (Nat.zero_le _) h hj
      rwa [cmpM_lt] at this
    · obtain rfl : i = j := by omega
      exact ltM_irrefl _
  have key : ∀ m, m ≤ d.size → RisingM (compactUpTo d m) ∧ ∀ x, x ∈ compactUpTo d m ↔ ∃ j, j < m ∧ d[j]! = x := by
    intro m
    induction m with
    | zero => intro _; exact ⟨List.Pairwise.nil, fun x => by simp [compactUpTo]⟩
    | succ m ih =>
      intro hm
      obtain ⟨h1, h2⟩ := ih (by omega)
      rw [compactUpTo_succ]
      cases hk : keeps d m with
      | true =>
        rw [if_pos rfl]
        constructor
        · refine List.pairwise_append.2 ⟨h1, List.pairwise_singleton _ _, fun x hx y hy => ?_⟩
          rw [List.mem_singleton] at hy
          subst hy
          obtain ⟨j, hj, rfl⟩ := (h2 x).1 hx
          have hne : d[m]! ≠ d[m - 1]! := by
            unfold keeps at hk
            rcases of_decide_eq_true hk with h | h
            · omega
            · exact h
          have ha := hle j (m - 1) (by omega) (by omega)
          have hb := hle (m - 1) m (by omega) (by omega)
          rcases ltM_cases d[j]! d[m]! with h | h | h
          · exact h
          · rw [h] at ha
            rcases ltM_cases d[m - 1]! d[m]! with h' | h' | h'
            · rw [ha] at h'; cases h'
            · exact absurd h'.symm hne
            · rw [hb] at h'; cases h'
          · rw [hle j m (by omega) (by omega)] at h; cases h
        · intro x
          rw [List.mem_append, List.mem_singleton, h2]
          constructor
          · rintro (⟨j, hj, e⟩ | e)
            · exact ⟨j, by omega, e⟩
            · exact ⟨m, by omega, e.symm⟩
          · rintro ⟨j, hj, e⟩
            by_cases hjm : j = m
            · subst hjm; exact Or.inr e.symm
            · exact Or.inl ⟨j, by omega, e⟩
      | false =>
        rw [if_neg (by simp), List.append_nil]
        refine ⟨h1, fun x => ?_⟩
        rw [h2]
        constructor
        · rintro ⟨j, hj, e⟩
          exact ⟨j, by omega, e⟩
        · rintro ⟨j, hj, e⟩
          by_cases hjm : j = m
          · subst hjm
            have hh : ¬ (j = 0 ∨ d[j]! ≠ d[j - 1]!) := by unfold keeps at hk; exact of_decide_eq_false hk
            have h0 : j ≠ 0 := fun e => hh (Or.inl e)
            have h3 : d[j]! = d[j - 1]! := Classical.byContradiction fun e => hh (Or.inr e)
            exact ⟨j - 1, by omega, by rw [← h3]; exact e⟩
          · exact ⟨j, by omega, e⟩
  obtain ⟨h1, h2⟩ := key d.size (Nat.le_refl _)
  refine ⟨h1, fun x => (h2 x).trans ?_⟩
  rw [List.mem_iff_getElem]
  constructor
  · rintro ⟨j, hj, e⟩
    exact ⟨j, by simpa using hj, by rw [← e, getElem!_pos d j hj]; simp⟩
  · rintro ⟨j, hj, e⟩
    have hj' : j < d.size := by simpa using hj
    exact ⟨j, hj', by rw [getElem!_pos d j hj', ← e]; simp⟩

end Go.Proofs.Ytinmagodckkedaa

/-
  An element written over in a row of its own, for elements of one cell and of two.
-/
namespace Go.Proofs.Ytinmagodckkedaa
open Go.RowKit Go.Lib

theorem Kind.set2 {α : Type} {K : Kind α} (hk : K.k = 2) (d : List α) (i : Nat) (h : i < d.length) (x : α) (a b : Value) (he : K.enc x = [a, b]) : K.cells (d.set i x) = ((K.cells d).set (i * 2) a).set (i * 2 + 1) b := by
  apply List.ext_getElem?
  intro j
  rw [K.cells_set d i h x j]
  have hl : (K.cells d).length = d.length * 2 := by rw [K.cells_len, hk]
  rw [hk, he]
  simp only [List.getElem?_set, List.length_set, hl]
  by_cases h0 : j = i * 2
  · subst h0
    simp
    omega
  · by_cases h1 : j = i * 2 + 1
    · subst h1
      simp
      omega
    · rw [if_neg (by omega), if_neg (fun e => h1 e.symm), if_neg (fun e => h0 e.symm)]

theorem Kind.set1 {α : Type} {K : Kind α} (hk : K.k = 1) (d : List α) (i : Nat) (h : i < d.length) (x : α) (a : Value) (he : K.enc x = [a]) : K.cells (d.set i x) = (K.cells d).set i a := by
  apply List.ext_getElem?
  intro j
  rw [K.cells_set d i h x j]
  have hl : (K.cells d).length = d.length := by rw [K.cells_len, hk, Nat.mul_one]
  rw [hk, he]
  simp only [List.getElem?_set, hl, Nat.mul_one]
  by_cases h0 : j = i
  · subst h0
    simp
    omega
  · rw [if_neg (by omega), if_neg (fun e => h0 e.symm)]

/-- An element of two cells written over. -/
theorem Kind.own_put2 {α : Type} {K : Kind α} (hk : K.k = 2) {n0 g n cap : Nat} {w : World} {d : List α} (h : K.Own n0 w (.slice (some ⟨g, 0, none⟩) n cap) d) (hn : d.length = n) (i : Nat) (hi : i < d.length) (x : α) (a b : Value) (he : K.enc x = [a, b]) :
    K.Own n0 ((w.setCell ⟨g, i * 2, none⟩ a).setCell ⟨g, i * 2 + 1, none⟩ b) (.slice (some ⟨g, 0, none⟩) n cap) (d.set i x) := by
  subst hn
  have h1 := World.ownsRow.stored h (i * 2) a
  have h2 := World.ownsRow.stored h1.1 (i * 2 + 1) b
  unfold Kind.Own
  rw [Kind.set2 hk d i hi x a b he, List.length_set]
  exact h2.1

/-- An element of one cell written over. -/
theorem Kind.own_put1 {α : Type} {K : Kind α} (hk : K.k = 1) {n0 g n cap : Nat} {w : World} {d : List α} (h : K.Own n0 w (.slice (some ⟨g, 0, none⟩) n cap) d) (hn : d.length = n) (i : Nat) (hi : i < d.length) (x : α) (a : Value) (he : K.enc x = [a]) :
    K.Own n0 (w.setCell ⟨g, i, none⟩ a) (.slice (some ⟨g, 0, none⟩) n cap) (d.set i x) := by
  subst hn
  have h1 := World.ownsRow.stored h i a
  unfold Kind.Own
  rw [Kind.set1 hk d i hi x a he, List.length_set]
  exact h1.1

/-- A row that is not empty lies in a block of its own, whose cells may be written. -/
theorem Kind.own_form {α : Type} {K : Kind α} {n0 n c : Nat} {w : World} {q : Option Addr} {d : List α} (h : K.Own n0 w (.slice q n c) d) (h0 : 0 < d.length) : ∃ g, q = some ⟨g, 0, none⟩ ∧ n0 ≤ g ∧ d.length = n ∧ K.At w g 0 d ∧ ∀ j, w.frozen? ⟨g, j, none⟩ = false := by
  rcases h.2 with ⟨_, h1⟩ | ⟨g, cap, cur, hv, hb, hg, _⟩
  · omega
  · injection hv with h1 h2 h3
    subst h1
    obtain ⟨p, c', he, hd⟩ := Kind.own_is h
    injection he with e1 e2 e3
    rcases hd with hd | ⟨b, off, hp, hat⟩
    · rw [hd] at h0; simp at h0
    · rw [← e1] at hp
      injection hp with hp
      injection hp with hp1 hp2
      subst hp1 hp2
      exact ⟨g, rfl, hb, h2.symm, hat, fun j => Lib.frozen_of_heap hg _⟩

/-- One more in its place, by shifting: what a list is between two rounds of the shift. -/
theorem shift_step {α : Type} (l : List α) (y : α) (p i : Nat) (hp : p < i) (hi : i ≤ l.length) :
    (l.take i ++ y :: l.drop i).set i (l[i - 1]'(by omega)) = l.take (i - 1) ++ (l[i - 1]'(by omega)) :: l.drop (i - 1) := by
  obtain ⟨k, rfl⟩ : ∃ k, i = k + 1 := ⟨i - 1, by omega⟩
  have hk : k < l.length := by omega
  apply List.ext_getElem?
  intro j
  have h1 : (l.take (k + 1)).length = k + 1 := by rw [List.length_take]; omega
  have h2 : (l.take k).length = k := by rw [List.length_take]; omega
  simp only [Nat.add_sub_cancel]
  rw [List.getElem?_set]
  by_cases hj : k + 1 = j
  · subst hj
    rw [if_pos rfl, if_pos (by rw [List.length_append, h1]; simp), List.getElem?_append_right (by omega), h2]
    simp [List.getElem?_drop, hk]
  · rw [if_neg hj]
    by_cases hlt : j < k
    · rw [List.getElem?_append_left (by omega), List.getElem?_append_left (by omega), List.getElem?_take, List.getElem?_take, if_pos (by omega), if_pos hlt]
    · by_cases he : j = k
      · subst he
        rw [List.getElem?_append_left (by omega), List.getElem?_append_right (by omega), h2, List.getElem?_take, if_pos (by omega)]
        simp [hk]
      · have hgt : k + 1 < j := by omega
        obtain ⟨m, rfl⟩ : ∃ m, j = k + 2 + m := ⟨j - (k + 2), by omega⟩
        rw [List.getElem?_append_right (by omega), List.getElem?_append_right (by omega), h1, h2, show k + 2 + m - (k + 1) = m + 1 by omega, show k + 2 + m - k = m + 1 + 1 by omega, List.getElem?_cons_succ, List.getElem?_cons_succ, List.getElem?_drop, List.getElem?_drop]
        congr 1
        omega

end Go.Proofs.Ytinmagodckkedaa

/-
  What references mean (stage 5): the mathematics, without the program.
-/
namespace Go.Proofs.Ytinmagodckkedaa
open Go.RowKit Go.Lib

/-- The text up to the first slash, and behind it. -/
def cutS : List UInt8 → Option (List UInt8 × List UInt8)
  | [] => none
  | c :: r => if c = 47 then some ([], r) else (cutS r).map fun x => (c :: x.1, x.2)

theorem cutS_some {l a b : List UInt8} (h : cutS l = some (a, b)) : l = a ++ 47 :: b ∧ (47 : UInt8) ∉ a := by
  induction l generalizing a with
  | nil => simp [cutS] at h
  | cons c r ih =>
    unfold cutS at h
    by_cases hc : c = 47
    · rw [if_pos hc] at h
      simp at h
      obtain ⟨rfl, rfl⟩ := h
      simp [hc]
    · rw [if_neg hc] at h
      cases hr : cutS r with
      | none => rw [hr] at h; simp at h
      | some x =>
        obtain ⟨a1, b1⟩ := x
        rw [hr] at h
        simp at h
        obtain ⟨rfl, rfl⟩ := h
        obtain ⟨e, hn⟩ := ih hr
        rw [e]
        refine ⟨rfl, ?_⟩
        simp only [List.mem_cons, not_or]
        exact ⟨fun h => hc h.symm, hn⟩

theorem cutS_of {a b : List UInt8} (h : (47 : UInt8) ∉ a) : cutS (a ++ 47 :: b) = some (a, b) := by
  induction a with
  | nil => simp [cutS]
  | cons c r ih =>
    simp only [List.mem_cons, not_or] at h
    simp only [List.cons_append, cutS]
    rw [if_neg (fun e => h.1 e.symm), ih h.2]
    rfl

def keyL (k : List UInt8 × List UInt8) : Bool := typeB k.1 && idenB k.2

/-- The key of a text. -/
def parseS (l : List UInt8) : Option (List UInt8 × List UInt8) :=
  match cutS l with
  | some k => if keyL k then some k else none
  | none => none

/-- The key that a text names; the temporary name that it names. -/
def namedS : List UInt8 → Option (List UInt8 × List UInt8)
  | 42 :: r => parseS r
  | _ => none

def tempS : List UInt8 → Option (List UInt8)
  | 42 :: 64 :: r => if tempB r then some r else none
  | _ => none

/-- A key's reference. -/
def refS (k : List UInt8 × List UInt8) : List UInt8 := 42 :: (k.1 ++ 47 :: k.2)

theorem type_slash {l : List UInt8} (h : typeB l = true) : (47 : UInt8) ∉ l := by
  cases l with
  | nil => simp
  | cons c r =>
    simp only [typeB, spell, Bool.and_eq_true, List.all_eq_true] at h
    intro hm
    rcases List.mem_cons.1 hm with rfl | hm
    · exact absurd h (by simp [bigB])
    · have := h.2 _ hm
      revert this
      simp [letB, bigB, smallB]

theorem parseS_some {l : List UInt8} {k : List UInt8 × List UInt8} (h : parseS l = some k) : l = k.1 ++ 47 :: k.2 ∧ keyL k = true := by
  unfold parseS at h
  cases hc : cutS l with
  | none => rw [hc] at h; cases h
  | some x =>
    rw [hc] at h
    simp only at h
    split at h
    · next hk =>
      cases h
      exact ⟨(cutS_some hc).1, hk⟩
    · cases h

theorem parseS_of {k : List UInt8 × List UInt8} (h : keyL k = true) : parseS (k.1 ++ 47 :: k.2) = some k := by
  have ht : typeB k.1 = true := by simp only [keyL, Bool.and_eq_true] at h; exact h.1
  unfold parseS
  rw [cutS_of (type_slash ht)]
  simp [h]

theorem named_ref {k : List UInt8 × List UInt8} (h : keyL k = true) : namedS (refS k) = some k := parseS_of h

theorem named_some {l : List UInt8} {k : List UInt8 × List UInt8} (h : namedS l = some k) : l = refS k ∧ keyL k = true := by
  unfold namedS at h
  split at h
  · obtain ⟨h1, h2⟩ := parseS_some h
    exact ⟨by rw [h1]; rfl, h2⟩
  · cases h

theorem temp_some {l n : List UInt8} (h : tempS l = some n) : l = 42 :: 64 :: n ∧ tempB n = true := by
  unfold tempS at h
  split at h
  · split at h
    · next hk => cases h; exact ⟨rfl, hk⟩
    · cases h
  · cases h

theorem temp_of {n : List UInt8} (h : tempB n = true) : tempS (42 :: 64 :: n) = some n := by simp [tempS, h]

/-- No reference to a key is a temporary one. -/
theorem temp_ref {k : List UInt8 × List UInt8} (h : keyL k = true) : tempS (refS k) = none := by
  cases ht : tempS (refS k) with
  | none => rfl
  | some n =>
    obtain ⟨e, _⟩ := temp_some ht
    exfalso
    simp only [keyL, Bool.and_eq_true] at h
    obtain ⟨a, b⟩ := k
    cases a with
    | nil => simp [typeB, spell] at h
    | cons c r =>
      simp only [refS, List.cons_append, List.cons.injEq, true_and] at e
      obtain ⟨rfl, _⟩ := e
      simp [typeB, spell, bigB] at h

theorem named_temp {l : List UInt8} {k : List UInt8 × List UInt8} (h : namedS l = some k) : tempS l = none := by
  obtain ⟨rfl, hk⟩ := named_some h
  exact temp_ref hk

/-! Names of keys and binds, as the program holds them. -/

abbrev Ky := ByteArray × ByteArray
abbrev Bd := ByteArray × Ky

def Ky.l (k : Ky) : List UInt8 × List UInt8 := (k.1.data.toList, k.2.data.toList)
def bytesL (l : List UInt8) : ByteArray := ⟨l.toArray⟩
theorem bytesL_list (l : List UInt8) : (bytesL l).data.toList = l := rfl
theorem bytesL_of (b : ByteArray) : bytesL b.data.toList = b := rfl

def keyOK (k : Ky) : Bool := keyL k.l
def namedT (t : ByteArray) : Option Ky := (namedS t.data.toList).map fun k => (bytesL k.1, bytesL k.2)
def tempT (t : ByteArray) : Option ByteArray := (tempS t.data.toList).map bytesL
def refT (k : Ky) : ByteArray := bytesL (refS k.l)

theorem namedT_ref {k : Ky} (h : keyOK k = true) : namedT (refT k) = some k := by
  unfold namedT refT
  rw [bytesL_list, named_ref h]
  rfl

theorem namedT_some {t : ByteArray} {k : Ky} (h : namedT t = some k) : t = refT k ∧ keyOK k = true := by
  unfold namedT at h
  cases hn : namedS t.data.toList with
  | none => rw [hn] at h; cases h
  | some x =>
    rw [hn] at h
    simp only [Option.map_some, Option.some.injEq] at h
    subst h
    obtain ⟨h1, h2⟩ := named_some hn
    exact ⟨by rw [← bytesL_of t, h1]; rfl, h2⟩

theorem tempT_ref {k : Ky} (h : keyOK k = true) : tempT (refT k) = none := by
  unfold tempT refT
  rw [bytesL_list, temp_ref h]
  rfl

theorem namedT_temp {t : ByteArray} {k : Ky} (h : namedT t = some k) : tempT t = none := by
  obtain ⟨rfl, hk⟩ := namedT_some h
  exact tempT_ref hk

theorem refT_inj {a b : Ky} (ha : keyOK a = true) (hb : keyOK b = true) (h : refT a = refT b) : a = b := by
  have := namedT_ref ha
  rw [h, namedT_ref hb] at this
  exact (Option.some.inj this).symm

/-! Rename. -/

def renT (a b : Ky) (t : ByteArray) : ByteArray := if namedT t = some a then refT b else t
def mapT (g : ByteArray → ByteArray) (fs : List Fld) : List Fld := fs.map fun f => (f.1, f.2.map g)
def pointsF (fs : List Fld) (k : Ky) : Prop := ∃ f ∈ fs, ∃ t ∈ f.2, namedT t = some k

theorem points_map {g : ByteArray → ByteArray} {fs : List Fld} {k : Ky} : pointsF (mapT g fs) k ↔ ∃ f ∈ fs, ∃ t ∈ f.2, namedT (g t) = some k := by
  unfold pointsF mapT
  constructor
  · rintro ⟨f, hf, t, ht, h⟩
    obtain ⟨f0, h0, rfl⟩ := List.mem_map.1 hf
    obtain ⟨t0, h1, rfl⟩ := List.mem_map.1 ht
    exact ⟨f0, h0, t0, h1, h⟩
  · rintro ⟨f, hf, t, ht, h⟩
    exact ⟨_, List.mem_map.2 ⟨f, hf, rfl⟩, _, List.mem_map.2 ⟨t, ht, rfl⟩, h⟩

theorem ren_named {a b k : Ky} (hb : keyOK b = true) (hab : a ≠ b) (t : ByteArray) : namedT (renT a b t) = some k ↔ (namedT t = some k ∧ k ≠ a) ∨ (k = b ∧ namedT t = some a) := by
  unfold renT
  split
  · next h =>
    rw [namedT_ref hb, h]
    constructor
    · intro e
      exact Or.inr ⟨(Option.some.inj e).symm, rfl⟩
    · rintro (⟨e, hk⟩ | ⟨rfl, _⟩)
      · exact absurd (Option.some.inj e).symm hk
      · rfl
  · next h =>
    constructor
    · intro e
      exact Or.inl ⟨e, fun hk => h (by rw [e, hk])⟩
    · rintro (⟨e, _⟩ | ⟨_, e⟩)
      · exact e
      · exact absurd e h

theorem ren_from {a b : Ky} (hb : keyOK b = true) (hab : a ≠ b) (fs : List Fld) : ¬ pointsF (mapT (renT a b) fs) a := by
  rw [points_map]
  rintro ⟨f, _, t, _, h⟩
  rcases (ren_named hb hab t).1 h with ⟨_, h2⟩ | ⟨h1, _⟩
  · exact h2 rfl
  · exact hab h1

theorem ren_to {a b : Ky} (hb : keyOK b = true) (hab : a ≠ b) (fs : List Fld) : pointsF (mapT (renT a b) fs) b ↔ pointsF fs a ∨ pointsF fs b := by
  rw [points_map]
  constructor
  · rintro ⟨f, hf, t, ht, h⟩
    rcases (ren_named hb hab t).1 h with ⟨h1, _⟩ | ⟨_, h2⟩
    · exact Or.inr ⟨f, hf, t, ht, h1⟩
    · exact Or.inl ⟨f, hf, t, ht, h2⟩
  · rintro (⟨f, hf, t, ht, h⟩ | ⟨f, hf, t, ht, h⟩)
    · exact ⟨f, hf, t, ht, (ren_named hb hab t).2 (Or.inr ⟨rfl, h⟩)⟩
    · exact ⟨f, hf, t, ht, (ren_named hb hab t).2 (Or.inl ⟨h, fun e => hab e.symm⟩)⟩

theorem ren_back_text {a b : Ky} (hb : keyOK b = true) {t : ByteArray} (h : namedT t ≠ some b) : renT b a (renT a b t) = t := by
  unfold renT
  by_cases h1 : namedT t = some a
  · rw [if_pos h1, namedT_ref hb, if_pos rfl]
    exact (namedT_some h1).1.symm
  · rw [if_neg h1, if_neg h]

theorem map_same {fs : List Fld} {g : ByteArray → ByteArray} (h : ∀ f ∈ fs, ∀ t ∈ f.2, g t = t) : mapT g fs = fs := by
  unfold mapT
  conv => rhs; rw [← List.map_id fs]
  apply List.map_congr_left
  intro f hf
  have : f.2.map g = f.2 := by
    conv => rhs; rw [← List.map_id f.2]
    exact List.map_congr_left fun t ht => h f hf t ht
  rw [this]
  rfl

theorem map_map {fs : List Fld} {g h : ByteArray → ByteArray} : mapT g (mapT h fs) = mapT (g ∘ h) fs := by
  unfold mapT
  rw [List.map_map]
  apply List.map_congr_left
  intro f _
  simp

theorem ren_back {a b : Ky} (hb : keyOK b = true) {fs : List Fld} (h : ¬ pointsF fs b) : mapT (renT b a) (mapT (renT a b) fs) = fs := by
  rw [map_map]
  exact map_same fun f hf t ht => ren_back_text hb fun e => h ⟨f, hf, t, ht, e⟩

/-! Resolve. -/

def boundT (bs : List Bd) (n : ByteArray) : Option Ky := (bs.find? fun b => decide (b.1 = n)).map (·.2)

def resT (bs : List Bd) (t : ByteArray) : ByteArray :=
  match tempT t with
  | none => t
  | some n => match boundT bs n with
    | some k => refT k
    | none => t

def allBound (bs : List Bd) (fs : List Fld) : Prop := ∀ f ∈ fs, ∀ t ∈ f.2, ∀ n, tempT t = some n → (boundT bs n).isSome = true

theorem bound_mem {bs : List Bd} {n : ByteArray} {k : Ky} (h : boundT bs n = some k) : (n, k) ∈ bs := by
  unfold boundT at h
  cases hf : bs.find? fun b => decide (b.1 = n) with
  | none => rw [hf] at h; cases h
  | some b =>
    rw [hf] at h
    simp only [Option.map_some, Option.some.injEq] at h
    have h1 := List.find?_some hf
    have h2 := List.mem_of_find?_eq_some hf
    simp only [decide_eq_true_eq] at h1
    obtain ⟨b1, b2⟩ := b
    simp only at h h1
    subst h h1
    exact h2

theorem bound_of {bs : List Bd} (hn : (bs.map (·.1)).Nodup) {n : ByteArray} {k : Ky} (h : (n, k) ∈ bs) : boundT bs n = some k := by
  induction bs with
  | nil => cases h
  | cons b r ih =>
    rw [List.map_cons, List.nodup_cons] at hn
    unfold boundT
    rw [List.find?_cons]
    rcases List.mem_cons.1 h with e | h
    · subst e; simp
    · have hne : b.1 ≠ n := fun e => hn.1 (by rw [e]; exact List.mem_map.2 ⟨_, h, rfl⟩)
      rw [decide_eq_false hne]
      exact ih hn.2 h

/-- The order of binds is no matter. -/
theorem bound_turn {bs cs : List Bd} (h1 : (bs.map (·.1)).Nodup) (h2 : (cs.map (·.1)).Nodup) (hm : ∀ x, x ∈ bs ↔ x ∈ cs) (n : ByteArray) : boundT bs n = boundT cs n := by
  cases hb : boundT bs n with
  | some k => exact (bound_of h2 ((hm _).1 (bound_mem hb))).symm
  | none =>
    cases hc : boundT cs n with
    | none => rfl
    | some k => rw [bound_of h1 ((hm _).2 (bound_mem hc))] at hb; cases hb

theorem res_turn {bs cs : List Bd} (h1 : (bs.map (·.1)).Nodup) (h2 : (cs.map (·.1)).Nodup) (hm : ∀ x, x ∈ bs ↔ x ∈ cs) : resT bs = resT cs := by
  funext t
  unfold resT
  cases tempT t with
  | none => rfl
  | some n => simp only [bound_turn h1 h2 hm n]

/-- Behind Resolve there is no temporary reference. -/
theorem res_temp {bs : List Bd} (hk : ∀ b ∈ bs, keyOK b.2 = true) {t : ByteArray} (h : ∀ n, tempT t = some n → (boundT bs n).isSome = true) : tempT (resT bs t) = none := by
  unfold resT
  cases ht : tempT t with
  | none => exact ht
  | some n =>
    simp only
    cases hb : boundT bs n with
    | none => have := h n ht; rw [hb] at this; cases this
    | some k => exact tempT_ref (hk _ (bound_mem hb))

theorem res_stays {bs : List Bd} {t : ByteArray} (h : tempT t = none) : resT bs t = t := by unfold resT; rw [h]

theorem res_named {bs : List Bd} (hk : ∀ b ∈ bs, keyOK b.2 = true) {t n : ByteArray} (ht : tempT t = some n) (h : (boundT bs n).isSome = true) : ∃ k, boundT bs n = some k ∧ namedT (resT bs t) = some k := by
  cases hb : boundT bs n with
  | none => rw [hb] at h; cases h
  | some k =>
    refine ⟨k, rfl, ?_⟩
    unfold resT
    rw [ht]
    simp only [hb]
    exact namedT_ref (hk _ (bound_mem hb))

/-- Behind Resolve the keys are those that were there, and those of the names that were used. -/
theorem res_points {bs : List Bd} (hk : ∀ b ∈ bs, keyOK b.2 = true) {fs : List Fld} (h : allBound bs fs) (k : Ky) :
    pointsF (mapT (resT bs) fs) k ↔ pointsF fs k ∨ ∃ f ∈ fs, ∃ t ∈ f.2, ∃ n, tempT t = some n ∧ boundT bs n = some k := by
  rw [points_map]
  constructor
  · rintro ⟨f, hf, t, ht, e⟩
    cases hn : tempT t with
    | none => rw [res_stays hn] at e; exact Or.inl ⟨f, hf, t, ht, e⟩
    | some n =>
      obtain ⟨k', hb, hk'⟩ := res_named hk hn (h f hf t ht n hn)
      rw [hk'] at e
      exact Or.inr ⟨f, hf, t, ht, n, hn, by rw [hb]; exact e⟩
  · rintro (⟨f, hf, t, ht, e⟩ | ⟨f, hf, t, ht, n, hn, e⟩)
    · exact ⟨f, hf, t, ht, by rw [res_stays (namedT_temp e)]; exact e⟩
    · obtain ⟨k', hb, hk'⟩ := res_named hk hn (by rw [e]; rfl)
      rw [hb] at e
      exact ⟨f, hf, t, ht, by rw [hk']; exact e⟩

end Go.Proofs.Ytinmagodckkedaa

/-
  Rising lists (stage 5): one more in its place; the keys and the temporary names of a value.
-/
namespace Go.Proofs.Ytinmagodckkedaa
open Go.RowKit Go.Lib

structure Tot {α : Type} (lt : α → α → Bool) : Prop where
  irr : ∀ a, lt a a = false
  tr : ∀ a b c, lt a b = true → lt b c = true → lt a c = true
  tot : ∀ a b, lt a b = true ∨ a = b ∨ lt b a = true

def RisingR {α : Type} (lt : α → α → Bool) (l : List α) : Prop := l.Pairwise fun x y => lt x y = true

def insR {α : Type} [DecidableEq α] (lt : α → α → Bool) (x : α) : List α → List α
  | [] => [x]
  | y :: r => if lt x y then x :: y :: r else if x = y then y :: r else y :: insR lt x r

theorem mem_insR {α : Type} [DecidableEq α] (lt : α → α → Bool) (x z : α) (l : List α) : z ∈ insR lt x l ↔ z = x ∨ z ∈ l := by
  induction l with
  | nil => simp [insR]
  | cons y r ih =>
    unfold insR
    split
    · simp
    · split
      · next h => subst h; simp
      · rw [List.mem_cons, ih, List.mem_cons]
        constructor
        · rintro (h | h | h)
          · exact Or.inr (Or.inl h)
          · exact Or.inl h
          · exact Or.inr (Or.inr h)
        · rintro (h | h | h)
          · exact Or.inr (Or.inl h)
          · exact Or.inl h
          · exact Or.inr (Or.inr h)

theorem rising_insR {α : Type} [DecidableEq α] {lt : α → α → Bool} (T : Tot lt) (x : α) {l : List α} (h : RisingR lt l) : RisingR lt (insR lt x l) := by
  induction l with
  | nil => exact List.pairwise_cons.2 ⟨fun _ h => by simp at h, List.Pairwise.nil⟩
  | cons y r ih =>
    obtain ⟨h1, h2⟩ := List.pairwise_cons.1 h
    unfold insR
    split
    · next hx =>
      refine List.pairwise_cons.2 ⟨fun z hz => ?_, h⟩
      rcases List.mem_cons.1 hz with rfl | hz
      · exact hx
      · exact T.tr _ _ _ hx (h1 z hz)
    · next hx =>
      split
      · exact h
      · next hne =>
        refine List.pairwise_cons.2 ⟨fun z hz => ?_, ih h2⟩
        rcases (mem_insR lt x z r).1 hz with rfl | hz
        · rcases T.tot y z with h | h | h
          · exact h
          · exact absurd h.symm hne
          · exact absurd h hx
        · exact h1 z hz

theorem rising_uniqR {α : Type} {lt : α → α → Bool} (T : Tot lt) : ∀ {r s : List α}, RisingR lt r → RisingR lt s → (∀ x, x ∈ r ↔ x ∈ s) → r = s
  | [], [], _, _, _ => rfl
  | [], y :: s, _, _, h => by have := (h y).2 (by simp); simp at this
  | x :: r, [], _, _, h => by have := (h x).1 (by simp); simp at this
  | x :: r, y :: s, hr, hs, h => by
    obtain ⟨r1, r2⟩ := List.pairwise_cons.1 hr
    obtain ⟨s1, s2⟩ := List.pairwise_cons.1 hs
    have hxy : x = y := by
      rcases List.mem_cons.1 ((h x).1 (by simp)) with e | hx
      · exact e
      · rcases List.mem_cons.1 ((h y).2 (by simp)) with e | hy
        · exact e.symm
        · have h1 := T.tr _ _ _ (r1 y hy) (s1 x hx)
          rw [T.irr] at h1
          cases h1
    subst hxy
    rw [rising_uniqR T r2 s2 fun z => ?_]
    constructor
    · intro hz
      rcases List.mem_cons.1 ((h z).1 (List.mem_cons_of_mem _ hz)) with e | hz'
      · subst e; have := r1 z hz; rw [T.irr] at this; cases this
      · exact hz'
    · intro hz
      rcases List.mem_cons.1 ((h z).2 (List.mem_cons_of_mem _ hz)) with e | hz'
      · subst e; have := s1 z hz; rw [T.irr] at this; cases this
      · exact hz'

/-- One more, where the search has found its place. -/
theorem insR_at {α : Type} [DecidableEq α] {lt : α → α → Bool} (T : Tot lt) (x : α) : ∀ (l : List α) (p : Nat), p ≤ l.length → (∀ i, (h : i < p) → (h' : i < l.length) → lt l[i] x = true) → (∀ h : p < l.length, lt x l[p] = true) → insR lt x l = l.take p ++ x :: l.drop p
  | [], 0, _, _, _ => rfl
  | [], p + 1, h, _, _ => absurd h (by simp)
  | y :: r, 0, _, _, h2 => by
    have := h2 (by simp)
    simp only [List.getElem_cons_zero] at this
    unfold insR
    rw [if_pos this]
    rfl
  | y :: r, p + 1, h, h1, h2 => by
    have hy := h1 0 (by omega) (by simp)
    simp only [List.getElem_cons_zero] at hy
    have hxy : lt x y = false := by
      cases e : lt x y with
      | false => rfl
      | true => have := T.tr _ _ _ hy e; rw [T.irr] at this; cases this
    have hne : x ≠ y := fun e => by subst e; rw [T.irr] at hy; cases hy
    unfold insR
    rw [if_neg (by rw [hxy]; simp), if_neg hne, insR_at T x r p (by simpa using h) (fun i hi hi' => ?_) (fun hp => ?_)]
    · rfl
    · have := h1 (i + 1) (by omega) (by simpa using hi')
      simpa using this
    · have := h2 (by simpa using hp)
      simpa using this

/-- One that is there already. -/
theorem insR_there {α : Type} [DecidableEq α] {lt : α → α → Bool} (T : Tot lt) {x : α} {l : List α} (h : RisingR lt l) (hx : x ∈ l) : insR lt x l = l :=
  rising_uniqR T (rising_insR T x h) h fun z => by
    rw [mem_insR]
    exact ⟨fun hz => by rcases hz with rfl | hz <;> assumption, Or.inr⟩

/-- What a search by halves finds out at the place m. -/
theorem rising_low {α : Type} {lt : α → α → Bool} (T : Tot lt) {l : List α} (h : RisingR lt l) {x : α} {m : Nat} (hm : m < l.length) (hx : lt l[m] x = true) : ∀ i, (hi : i ≤ m) → lt (l[i]'(by omega)) x = true := by
  intro i hi
  rcases Nat.lt_or_eq_of_le hi with hlt | rfl
  · exact T.tr _ _ _ (List.pairwise_iff_getElem.1 h i m (by omega) hm hlt) hx
  · exact hx

theorem rising_high {α : Type} {lt : α → α → Bool} (T : Tot lt) {l : List α} (h : RisingR lt l) {x : α} {m : Nat} (hm : m < l.length) (hx : lt l[m] x = false) : ∀ i, (hi : m ≤ i) → (h' : i < l.length) → lt l[i] x = false := by
  intro i hi h'
  rcases Nat.lt_or_eq_of_le hi with hlt | rfl
  · cases e : lt l[i] x with
    | false => rfl
    | true =>
      have := T.tr _ _ _ (List.pairwise_iff_getElem.1 h m i hm h' hlt) e
      rw [hx] at this
      cases this
  · exact hx

/-- The place that a search by halves ends at: what is there already, or where it goes. -/
theorem put_there {α : Type} [DecidableEq α] {lt : α → α → Bool} (T : Tot lt) {l : List α} (h : RisingR lt l) {x : α} {p : Nat} (hp : p < l.length) (he : l[p] = x) : insR lt x l = l :=
  insR_there T h (by rw [← he]; exact List.getElem_mem hp)

theorem put_new {α : Type} [DecidableEq α] {lt : α → α → Bool} (T : Tot lt) {l : List α} {x : α} {p : Nat} (hp : p ≤ l.length) (h1 : ∀ i, (h : i < p) → (h' : i < l.length) → lt l[i] x = true) (h2 : ∀ h : p < l.length, lt l[p] x = false) (hne : ∀ h : p < l.length, l[p] ≠ x) :
    insR lt x l = l.take p ++ x :: l.drop p :=
  insR_at T x l p hp h1 fun h => by
    rcases T.tot x l[p] with e | e | e
    · exact e
    · exact absurd e.symm (hne h)
    · rw [h2 h] at e; cases e

theorem totB : Tot ltB := ⟨ltB_irrefl, fun _ _ _ => ltB_trans, ltB_cases⟩

def ltKy (a b : Ky) : Bool := ltB a.1 b.1 || (decide (a.1 = b.1) && ltB a.2 b.2)

theorem ltKy_true {a b : Ky} : ltKy a b = true ↔ ltB a.1 b.1 = true ∨ a.1 = b.1 ∧ ltB a.2 b.2 = true := by simp [ltKy]

theorem totK : Tot ltKy where
  irr a := by
    cases h : ltKy a a with
    | false => rfl
    | true =>
      rcases ltKy_true.1 h with h | ⟨_, h⟩
      · rw [ltB_irrefl] at h; cases h
      · rw [ltB_irrefl] at h; cases h
  tr a b c h k := by
    rw [ltKy_true] at *
    rcases h with h | ⟨h, h'⟩ <;> rcases k with k | ⟨k, k'⟩
    · exact Or.inl (ltB_trans h k)
    · exact Or.inl (by rw [← k]; exact h)
    · exact Or.inl (by rw [h]; exact k)
    · exact Or.inr ⟨h.trans k, ltB_trans h' k'⟩
  tot a b := by
    rw [ltKy_true, ltKy_true]
    rcases ltB_cases a.1 b.1 with h | h | h
    · exact Or.inl (Or.inl h)
    · rcases ltB_cases a.2 b.2 with k | k | k
      · exact Or.inl (Or.inr ⟨h, k⟩)
      · exact Or.inr (Or.inl (Prod.ext h k))
      · exact Or.inr (Or.inr (Or.inr ⟨h.symm, k⟩))
    · exact Or.inr (Or.inr (Or.inl h))

/-- All that is told by the texts, in order. -/
def toldBy {α : Type} [DecidableEq α] (lt : α → α → Bool) (g : ByteArray → Option α) (ts : List ByteArray) : List α :=
  ts.foldl (fun acc t => match g t with
    | some x => insR lt x acc
    | none => acc) []

theorem told_go {α : Type} [DecidableEq α] {lt : α → α → Bool} (T : Tot lt) (g : ByteArray → Option α) (ts : List ByteArray) : ∀ acc : List α, RisingR lt acc →
    RisingR lt (ts.foldl (fun acc t => match g t with | some x => insR lt x acc | none => acc) acc) ∧ ∀ z, z ∈ ts.foldl (fun acc t => match g t with | some x => insR lt x acc | none => acc) acc ↔ z ∈ acc ∨ ∃ t ∈ ts, g t = some z := by
  induction ts with
  | nil => intro acc h; exact ⟨h, fun z => by simp⟩
  | cons t r ih =>
    intro acc h
    simp only [List.foldl_cons]
    cases hg : g t with
    | none =>
      obtain ⟨h1, h2⟩ := ih acc h
      refine ⟨h1, fun z => ?_⟩
      rw [h2 z]
      constructor
      · rintro (h | ⟨u, hu, e⟩)
        · exact Or.inl h
        · exact Or.inr ⟨u, List.mem_cons_of_mem _ hu, e⟩
      · rintro (h | ⟨u, hu, e⟩)
        · exact Or.inl h
        · rcases List.mem_cons.1 hu with rfl | hu
          · rw [hg] at e; cases e
          · exact Or.inr ⟨u, hu, e⟩
    | some x =>
      obtain ⟨h1, h2⟩ := ih (insR lt x acc) (rising_insR T x h)
      refine ⟨h1, fun z => ?_⟩
      rw [h2 z, mem_insR]
      constructor
      · rintro ((rfl | h) | ⟨u, hu, e⟩)
        · exact Or.inr ⟨t, by simp, hg⟩
        · exact Or.inl h
        · exact Or.inr ⟨u, List.mem_cons_of_mem _ hu, e⟩
      · rintro (h | ⟨u, hu, e⟩)
        · exact Or.inl (Or.inr h)
        · rcases List.mem_cons.1 hu with rfl | hu
          · rw [hg] at e; exact Or.inl (Or.inl (Option.some.inj e).symm)
          · exact Or.inr ⟨u, hu, e⟩

theorem told_rising {α : Type} [DecidableEq α] {lt : α → α → Bool} (T : Tot lt) (g : ByteArray → Option α) (ts : List ByteArray) : RisingR lt (toldBy lt g ts) := (told_go T g ts [] List.Pairwise.nil).1
theorem told_mem {α : Type} [DecidableEq α] {lt : α → α → Bool} (T : Tot lt) (g : ByteArray → Option α) (ts : List ByteArray) (z : α) : z ∈ toldBy lt g ts ↔ ∃ t ∈ ts, g t = some z := by
  have := (told_go T g ts [] List.Pairwise.nil).2 z
  simpa [toldBy] using this

def textsF (fs : List Fld) : List ByteArray := fs.flatMap (·.2)
def keysF (fs : List Fld) : List Ky := toldBy ltKy namedT (textsF fs)
def tempsF (fs : List Fld) : List ByteArray := toldBy ltB tempT (textsF fs)

theorem mem_textsF {fs : List Fld} {t : ByteArray} : t ∈ textsF fs ↔ ∃ f ∈ fs, t ∈ f.2 := by simp [textsF]

/-- The keys of a value are those at which it points. -/
theorem mem_keysF {fs : List Fld} {k : Ky} : k ∈ keysF fs ↔ pointsF fs k := by
  unfold keysF pointsF
  rw [told_mem totK]
  constructor
  · rintro ⟨t, ht, h⟩
    obtain ⟨f, hf, h'⟩ := mem_textsF.1 ht
    exact ⟨f, hf, t, h', h⟩
  · rintro ⟨f, hf, t, ht, h⟩
    exact ⟨t, mem_textsF.2 ⟨f, hf, ht⟩, h⟩

theorem mem_tempsF {fs : List Fld} {n : ByteArray} : n ∈ tempsF fs ↔ ∃ f ∈ fs, ∃ t ∈ f.2, tempT t = some n := by
  unfold tempsF
  rw [told_mem totB]
  constructor
  · rintro ⟨t, ht, h⟩
    obtain ⟨f, hf, h'⟩ := mem_textsF.1 ht
    exact ⟨f, hf, t, h', h⟩
  · rintro ⟨f, hf, t, ht, h⟩
    exact ⟨t, mem_textsF.2 ⟨f, hf, ht⟩, h⟩

/-- Behind Resolve: no temporary name. -/
theorem res_tempsF {bs : List Bd} (hk : ∀ b ∈ bs, keyOK b.2 = true) {fs : List Fld} (h : allBound bs fs) : tempsF (mapT (resT bs) fs) = [] := by
  apply List.eq_nil_iff_forall_not_mem.2
  intro n hn
  obtain ⟨f, hf, t, ht, e⟩ := mem_tempsF.1 hn
  unfold mapT at hf
  obtain ⟨f0, h0, rfl⟩ := List.mem_map.1 hf
  obtain ⟨t0, h1, rfl⟩ := List.mem_map.1 ht
  rw [res_temp hk (h f0 h0 t0 h1)] at e
  cases e

end Go.Proofs.Ytinmagodckkedaa

/-
  Rows of texts, keys and binds; rows cut short, sorted, written behind their end, whatever their kind.
-/
namespace Go.Proofs.Ytinmagodckkedaa
open Go.RowKit Go.Sort Go.Lib

def encSt (x : ByteArray) : List Value := [.string x]
def KT : Kind ByteArray := ⟨9, 1, encSt, fun _ => rfl, by decide, fun x u hu => by simp [encSt] at hu; subst hu; rfl⟩
def encKy (x : Ky) : List Value := [.string x.1, .string x.2]
def KK : Kind Ky := ⟨31, 2, encKy, fun _ => rfl, by decide, fun x u hu => by simp [encKy] at hu; rcases hu with rfl | rfl <;> rfl⟩
def encBd (x : Bd) : List Value := [.string x.1, .string x.2.1, .string x.2.2]
def KB : Kind Bd := ⟨51, 3, encBd, fun _ => rfl, by decide, fun x u hu => by simp [encBd] at hu; rcases hu with rfl | rfl | rfl <;> rfl⟩

theorem kt_cells (d : List ByteArray) : KT.cells d = d.map Value.string := by
  induction d with
  | nil => rfl
  | cons x d ih =>
    have : KT.cells (x :: d) = Value.string x :: KT.cells d := rfl
    rw [this, ih]; rfl

theorem kt_own {n0 : Nat} {w : World} {v : Value} {d : List ByteArray} : KT.Own n0 w v d ↔ OwnT n0 w v d := by
  unfold Kind.Own OwnT
  rw [kt_cells]
  rfl

theorem kt_at {w : World} {b off : Nat} {d : List ByteArray} : KT.At w b off d ↔ ∀ i, (h : i < d.length) → w.cell? ⟨b, off + i, none⟩ = some (.string d[i]) := by
  constructor
  · intro h i hi
    have := h i hi 0 (.string d[i]) rfl
    have e : off + i * KT.k + 0 = off + i := by show off + i * 1 + 0 = _; omega
    rwa [e] at this
  · intro h i hi j u hu
    have hj : j = 0 := by
      have := (List.getElem?_eq_some_iff.1 hu).1
      have hl : (KT.enc d[i]).length = 1 := rfl
      omega
    subst hj
    have e : off + i * KT.k + 0 = off + i := by show off + i * 1 + 0 = _; omega
    rw [e, h i hi]
    exact hu

theorem kt_txt {w : World} {p : Option Addr} {d : List ByteArray} : TxtAt w p d ↔ (d = [] ∨ ∃ b off, p = some ⟨b, off, none⟩ ∧ KT.At w b off d) := by
  unfold TxtAt
  constructor
  · rintro (h | ⟨b, off, hp, h⟩)
    · exact Or.inl h
    · exact Or.inr ⟨b, off, hp, kt_at.2 h⟩
  · rintro (h | ⟨b, off, hp, h⟩)
    · exact Or.inl h
    · exact Or.inr ⟨b, off, hp, kt_at.1 h⟩

theorem kk_at {w : World} {b off : Nat} {d : List Ky} (h : KK.At w b off d) (i : Nat) (hi : i < d.length) : w.cell? ⟨b, off + i * 2, none⟩ = some (.string d[i].1) ∧ w.cell? ⟨b, off + i * 2 + 1, none⟩ = some (.string d[i].2) :=
  ⟨h i hi 0 _ rfl, h i hi 1 _ rfl⟩

theorem kb_at {w : World} {b off : Nat} {d : List Bd} (h : KB.At w b off d) (i : Nat) (hi : i < d.length) : w.cell? ⟨b, off + i * 3, none⟩ = some (.string d[i].1) ∧ w.cell? ⟨b, off + i * 3 + 1, none⟩ = some (.string d[i].2.1) ∧ w.cell? ⟨b, off + i * 3 + 2, none⟩ = some (.string d[i].2.2) :=
  ⟨h i hi 0 _ rfl, h i hi 1 _ rfl, h i hi 2 _ rfl⟩

theorem Kind.take_cells {α : Type} (K : Kind α) : ∀ (d : List α) (k : Nat), K.cells (d.take k) = (K.cells d).take (k * K.k)
  | [], k => by simp [Kind.cells]
  | x :: d, 0 => by simp [Kind.cells]
  | x :: d, k + 1 => by
    have e1 : K.cells (x :: d) = K.enc x ++ K.cells d := rfl
    have e2 : K.cells ((x :: d).take (k + 1)) = K.enc x ++ K.cells (d.take k) := rfl
    have h1 : (K.enc x).take (k * K.k + K.k) = K.enc x := List.take_of_length_le (by rw [K.len]; omega)
    rw [e1, e2, K.take_cells d k, Nat.add_mul, Nat.one_mul, List.take_append, h1, K.len, Nat.add_sub_cancel]

/-- The row cut short. -/
theorem Kind.own_cut {α : Type} {K : Kind α} {n0 g n cap : Nat} {w : World} {d : List α} (h : K.Own n0 w (.slice (some ⟨g, 0, none⟩) n cap) d) (k : Nat) (hk : k ≤ d.length) :
    K.Own n0 w (.slice (some ⟨g, 0, none⟩) k cap) (d.take k) := by
  have hl : (d.take k).length = k := by rw [List.length_take]; omega
  rcases h.2 with ⟨hv, _⟩ | ⟨g', cap', cur, hv, h1, h2, h3, h4, h5, h6⟩
  · cases hv
  · injection hv with e1 e2 e3
    injection e1 with e1
    injection e1 with e1 _ _
    subst e1 e3
    refine ⟨by rw [K.cells_len], Or.inr ⟨g, cap, cur, by rw [hl], h1, h2, by rw [hl]; omega, h4, h5, ?_⟩⟩
    rw [hl, K.take_cells, ← h6, List.take_take]
    congr 1
    have := Nat.mul_le_mul_right K.k hk
    omega

/-- Cells behind the row's end written over. -/
theorem Kind.own_past {α : Type} {K : Kind α} {n0 g n cap : Nat} {d : List α} (vs : List Value) : ∀ (w : World) (o : Nat), K.Own n0 w (.slice (some ⟨g, 0, none⟩) n cap) d → d.length = n → n * K.k ≤ o → K.Own n0 (w.setCells g o vs) (.slice (some ⟨g, 0, none⟩) n cap) d := by
  induction vs with
  | nil => intro w o h _ _; exact h
  | cons v vs ih =>
    intro w o h hn ho
    rw [World.setCells]
    refine ih _ _ ?_ hn (by omega)
    subst hn
    have h1 := (World.ownsRow.stored h o v).1
    rw [List.set_eq_of_length_le (by rw [K.cells_len]; exact ho)] at h1
    exact h1

theorem Kind.flat {α : Type} [Inhabited α] (K : Kind α) (d : List α) (t : Nat) (h : t < d.length * K.k) : (K.cells d)[t]? = some (K.enc d[t / K.k]!)[t % K.k]! := by
  have hq : t / K.k < d.length := (Nat.div_lt_iff_lt_mul K.pos).2 h
  have hm : t % K.k < K.k := Nat.mod_lt _ K.pos
  have e : t / K.k * K.k + t % K.k = t := by rw [Nat.mul_comm]; exact Nat.div_add_mod t K.k
  have h1 := K.cells_get d (t / K.k) hq (t % K.k) hm
  rw [e] at h1
  rw [h1, getElem!_pos d (t / K.k) hq, List.getElem?_eq_getElem (by rw [K.len]; exact hm), getElem!_pos _ _ (by rw [K.len]; exact hm)]

theorem Kind.own_holds {α : Type} [Inhabited α] {K : Kind α} {n0 g n cap : Nat} {w : World} {d : List α} (h : K.Own n0 w (.slice (some ⟨g, 0, none⟩) n cap) d) : HoldsK K.enc K.k w g 0 d.toArray := by
  rcases h.2 with ⟨hv, _⟩ | ⟨g', cap', cur, hv, h1, h2, h3, h4, h5, h6⟩
  · cases hv
  · injection hv with e1 e2 e3
    injection e1 with e1
    injection e1 with e1 _ _
    subst e1
    intro j hj
    rw [size_flatK] at hj
    have hj' : j < d.length * K.k := by simpa using hj
    have hg := K.flat d j hj'
    rw [← h6, List.getElem?_take_of_lt hj'] at hg
    rw [get_flatK _ _ _ _ hj]
    constructor
    · simp only [World.cell?, h2, Nat.zero_add]
      have hq : j / K.k < d.length := (Nat.div_lt_iff_lt_mul K.pos).2 hj'
      have he : d[j / K.k]! = d.toArray[j / K.k]! := by
        rw [getElem!_pos d (j / K.k) hq, getElem!_pos d.toArray (j / K.k) (by simpa using hq)]; simp
      rw [← Array.getElem?_toList, hg, he]
      rfl
    · simp [World.frozen?, h2]

theorem below_sortK {α : Type} [Inhabited α] (enc : α → List Value) (k : Nat) {B : Nat} {w0 w : World} (h : Below B w0 w) (hB : B ≤ w.heap.size) (blk off n : Nat) (d : Array α) (os : Array Obj) (hb : B ≤ blk) : Below B w0 (sortWorldK enc k w blk off n d os) := by
  refine h.trans ⟨rfl, rfl, rfl, ?_, ?_⟩
  · simp [sortWorldK, putRowK]
  · intro k' hk
    have hks : k' < w.heap.size := by omega
    simp only [sortWorldK, Sort.grow, putRowK, putRow, mapBlock, Sort.ahead]
    rw [Array.getElem?_append_left (by simpa using hks), Array.getElem?_modify, if_neg (by omega)]

/-- A row whose elements have been put in another order. -/
theorem Kind.own_sorted {α : Type} [Inhabited α] {K : Kind α} {n0 g n cap : Nat} {w : World} {d : List α} (h : K.Own n0 w (.slice (some ⟨g, 0, none⟩) n cap) d) (e : Array α) (he : e.size = d.length) (m : Nat) (os : Array Obj) :
    K.Own n0 (sortWorldK K.enc K.k w g 0 m e os) (.slice (some ⟨g, 0, none⟩) n cap) e.toList := by
  have hH := K.own_holds h
  rcases h.2 with ⟨hv, _⟩ | ⟨g', cap', cur, hv, h1, h2, h3, h4, h5, h6⟩
  · cases hv
  · injection hv with e1 e2 e3
    injection e1 with e1
    injection e1 with e1 _ _
    subst e1 e2 e3
    have hgl := (Array.getElem?_eq_some_iff.1 h2).1
    have hl : e.toList.length = d.length := by simpa using he
    have hheap : (sortWorldK K.enc K.k w g 0 m e os).heap[g]? = some (.cells (putCells id 0 (flatK K.enc K.k e) cur) K.T (0, 0)) := by
      simp only [sortWorldK, Sort.grow, putRowK, putRow, mapBlock, Sort.ahead]
      rw [Array.getElem?_append_left (by simpa using hgl), Array.getElem?_modify, if_pos rfl, h2]
      rfl
    have hH2 : HoldsK K.enc K.k (sortWorldK K.enc K.k w g 0 m e os) g 0 e := by
      exact holdsK_grow K.enc K.k _ os g 0 _ (by simpa [putRowK] using hgl) (holdsK_putRowK K.enc K.k (Sort.ahead w m) g 0 _ _ (holdsK_ahead K.enc K.k w m g 0 _ hH) (by simpa using he))
    have hsz : (putCells id 0 (flatK K.enc K.k e) cur).size = cur.size := by simp [putCells]
    refine ⟨by rw [K.cells_len], Or.inr ⟨g, cap, _, by rw [hl], h1, hheap, by rw [hl]; exact h3, h4, by rw [hsz]; exact h5, ?_⟩⟩
    apply List.ext_getElem?
    intro j
    rw [hl, List.getElem?_take]
    by_cases hj : j < d.length * K.k
    · have hje : j < e.size * K.k := by rw [he]; exact hj
      rw [if_pos hj, K.flat e.toList j (by rw [hl]; exact hj)]
      have := (hH2 j (by rw [size_flatK]; exact hje)).1
      rw [get_flatK _ _ _ _ (by first | exact hje | (rw [size_flatK]; exact hje))] at this
      simp only [World.cell?, hheap, Nat.zero_add] at this
      simp only [Option.isSome_none, Bool.false_eq_true, if_false] at this
      rw [Array.getElem?_toList, this]
      have hq : j / K.k < e.size := (Nat.div_lt_iff_lt_mul K.pos).2 hje
      have he2 : e.toList[j / K.k]! = e[j / K.k]! := by
        rw [getElem!_pos e (j / K.k) hq, getElem!_pos e.toList (j / K.k) (by simpa using hq)]; simp
      rw [he2]
      rfl
    · rw [if_neg hj, List.getElem?_eq_none]
      rw [K.cells_len, hl]
      omega

theorem Kind.own_ge {α : Type} {K : Kind α} {n0 g n cap : Nat} {w : World} {d : List α} (h : K.Own n0 w (.slice (some ⟨g, 0, none⟩) n cap) d) : n0 ≤ g ∧ g < w.heap.size ∧ d.length ≤ cap ∧ cap ≤ maxLen := by
  rcases h.2 with ⟨hv, _⟩ | ⟨g', cap', cur, hv, h1, h2, h3, h4, _⟩
  · cases hv
  · injection hv with e1 e2 e3
    injection e1 with e1
    injection e1 with e1 _ _
    subst e1 e3
    exact ⟨h1, (Array.getElem?_eq_some_iff.1 h2).1, h3, h4⟩

theorem Kind.own_drew {α : Type} {K : Kind α} {n0 : Nat} {w : World} {v : Value} {d : List α} (h : K.Own n0 w v d) (q : Nat) : K.Own n0 (w.drewN q) v d := h

theorem Kind.own_some {α : Type} [Inhabited α] {K : Kind α} {n0 g n cap : Nat} {w : World} {d : List α} (h : K.Own n0 w (.slice (some ⟨g, 0, none⟩) n cap) d) (t : Nat) (ht : t < d.length * K.k) :
    (w.cell? ⟨g, t, none⟩).isSome = true ∧ w.frozen? ⟨g, t, none⟩ = false := by
  have := K.own_holds h t (by rw [size_flatK]; simpa using ht)
  rw [Nat.zero_add] at this
  exact ⟨by rw [this.1]; rfl, this.2⟩

/-- An element's cells in a row of its own. -/
theorem Kind.own_at {α : Type} {K : Kind α} {n0 g n cap : Nat} {w : World} {d : List α} (h : K.Own n0 w (.slice (some ⟨g, 0, none⟩) n cap) d) : K.At w g 0 d := by
  by_cases h0 : 0 < d.length
  · obtain ⟨g', e, _, _, hat, _⟩ := Kind.own_form h h0
    cases e
    exact hat
  · intro i hi; omega

theorem Kind.own_free {α : Type} {K : Kind α} {n0 g n cap : Nat} {w : World} {d : List α} (h : K.Own n0 w (.slice (some ⟨g, 0, none⟩) n cap) d) (j : Nat) : w.frozen? ⟨g, j, none⟩ = false := by
  rcases h.2 with ⟨hv, _⟩ | ⟨g', cap', cur, hv, h1, h2, _⟩
  · cases hv
  · injection hv with e1 e2 e3
    injection e1 with e1
    injection e1 with e1 _ _
    subst e1
    exact Lib.frozen_of_heap h2 _

theorem Kind.newsN {α : Type} (K : Kind α) (W : World) (x : α) (N : Nat) (hN : N = W.heap.size) : ∀ j u, (K.cells [x])[j]? = some u → (W.alloc (.cells (K.enc x).toArray K.T)).cell? ((⟨N, 0, none⟩ : Addr).add j) = some u := by
  subst hN
  exact K.news W x

end Go.Proofs.Ytinmagodckkedaa

/-
  Fields of one's own: a field put in its place, and what stays when others only add to memory.
-/
namespace Go.Proofs.Ytinmagodckkedaa
open Go.RowKit

theorem XSt.on {A B C : Nat} {we W W' : World} {u : Value} {o : List Fx} (h : XSt A B C we u o W) (hb : Below W.heap.size W W') : XSt A B C we u o W' :=
  ⟨h.own.on hb, h.zu, h.zo, ⟨hb.os.trans h.kept.os, hb.tape.trans h.kept.tape, hb.output.trans h.kept.output, Nat.le_trans h.kept.size hb.size, fun k hk hz => (hb.block k (by have := h.kept.size; omega)).trans (h.kept.block k hk hz)⟩⟩

theorem XSt.below {N : Nat} {we W : World} {u : Value} {o : List Fx} (h : XSt N N N we u o W) (hN : N = we.heap.size) : Below N we W := h.kept.below (Nat.le_refl _) (by omega)

theorem XSt.put {A B C : Nat} {we W : World} {g c n : Nat} {o : List Fx} (h : XSt A B C we (.slice (some ⟨g, 0, none⟩) n c) o W) (hn : o.length = n) {i : Nat} (hi : i < o.length) (x : Fx) (hx : OwnT A W x.sl x.txt) (hz : ZoneV B C x.sl)
    (hf : ∀ j, (hj : j < o.length) → j ≠ i → (o[j]).sl.ownBlock = none ∨ (o[j]).sl.ownBlock ≠ x.sl.ownBlock) :
    XSt A B C we (.slice (some ⟨g, 0, none⟩) n c) (o.set i x) ((W.setCell ⟨g, i * 2, none⟩ (.string x.name)).setCell ⟨g, i * 2 + 1, none⟩ x.sl) := by
  subst hn
  have hrow := h.own.1.1
  have hg : W.grownBy ((W.setCell ⟨g, i * 2, none⟩ (.string x.name)).setCell ⟨g, i * 2 + 1, none⟩ x.sl) (Value.slice (some ⟨g, 0, none⟩) o.length c).ownBlock := grown_trans (grown_set W g _ _) (grown_set _ g _ _)
  refine ⟨⟨⟨?_, fun y hy => ?_⟩, ?_⟩, h.zu, fun y hy => ?_, h.kept.grown hg fun k hk => ⟨(World.ownsRow.lt hrow k hk).1, h.zu k hk⟩⟩
  · have h1 := (hrow.stored (i * 2) (.string x.name)).1
    have h2 := (h1.stored (i * 2 + 1) x.sl).1
    rw [List.length_set, cellsX_set _ _ hi]
    exact h2
  · obtain ⟨q, hq, rfl⟩ := List.mem_iff_getElem.1 hy
    rw [List.length_set] at hq
    rw [List.getElem_set]
    by_cases e : i = q
    · rw [if_pos e]; exact own_else (show W.ownsRow A 9 1 x.sl x.txt.length (x.txt.map Value.string) from hx) hrow (by decide) hg
    · rw [if_neg e]; exact own_else (h.own.1.2 _ (List.getElem_mem hq)) hrow (by decide) hg
  · exact apart_set h.own.2 hi hf
  · obtain ⟨q, hq, rfl⟩ := List.mem_iff_getElem.1 hy
    rw [List.length_set] at hq
    rw [List.getElem_set]
    by_cases e : i = q
    · rw [if_pos e]; exact hz
    · rw [if_neg e]; exact h.zo _ (List.getElem_mem hq)

/-- What a zero field is. -/
def zeroX : Fx := ⟨⟨#[]⟩, none, 0, []⟩

theorem cellsX_zeros (n : Nat) : cellsX (List.replicate n zeroX) = (List.replicate n [Value.string ⟨#[]⟩, Value.slice none 0 0]).flatten := by
  unfold cellsX
  rw [List.flatMap_replicate]
  rfl

theorem apart_zeros (n : Nat) : Apart (List.replicate n zeroX) := by
  unfold Apart
  rw [List.pairwise_replicate]
  exact Or.inr (Or.inl rfl)

end Go.Proofs.Ytinmagodckkedaa

/-
  The contracts of Type, ID and Temp of package name.
-/
namespace Go.Proofs.Ytinmagodckkedaa
open Go.RowKit

set_option maxHeartbeats 1000000 in
theorem id_any (n : Int) (w : World) : Calls Try.prog 77 #[.int .u8 n] w fun e w' => e = .returned (.bool (idB n)) ∧ w' = w := by
  go_enter Try.func77, Try.ntmps77
  go_wp2
  all_goals go_ret
  all_goals refine ⟨ret_bool ?_, rfl⟩
  all_goals (rw [Bool.eq_iff_iff]; simp_all [idB, lodB, digB, letB, bigB, smallB]; try omega)

set_option maxHeartbeats 1000000 in
theorem spelled_type (s : ByteArray) (w : World) (hs : s.size ≤ maxLen) :
    Calls Try.prog 55 #[.string s, .func (.func 76) #[] #[], .func (.func 75) #[] #[]] w fun e w' => e = .returned (.bool (typeB s.data.toList)) ∧ w' = w := by
  unfold maxLen at hs
  by_cases he : s.size = 0
  · have hb := spell_empty bigB letB s he
    have hlt : (s.size : Int) < 1 := by omega
    have HB : Hid (spell bigB letB s.data.toList = false) := hb
    clear he hb
    go_enter Try.func55, Try.ntmps55
    go_wp2_with fail
    go_ret
    exact ⟨ret_bool HB.out.symm, rfl⟩
  have hpos : 0 < s.size := by omega
  have hnl : ¬ (s.size : Int) < 1 := by omega
  by_cases hl : 32 < s.size
  · have hb := spell_long bigB letB s hl
    have HB : Hid (spell bigB letB s.data.toList = false) := hb
    have hgt : (32 : Int) < (s.size : Int) := by omega
    clear he hb
    go_enter Try.func55, Try.ntmps55
    go_wp2_with fail
    go_ret
    exact ⟨ret_bool HB.out.symm, rfl⟩
  have hle : ¬ (32 : Int) < (s.size : Int) := by omega
  clear he
  cases hc : bigB (s[0].toNat : Int) with
  | false =>
    have HB : Hid (spell bigB letB s.data.toList = false) := spell_first bigB letB s hpos hc
    go_enter Try.func55, Try.ntmps55
    go_wp2_with (go_at_call 76; refine (big_any _ _).mono ?_; rintro e w' ⟨rfl, rfl⟩)
    go_ret
    exact ⟨ret_bool HB.out.symm, rfl⟩
  | true =>
    have HT : Hid ((∀ k, 1 ≤ k → (hk : k < s.size) → letB (s[k].toNat : Int) = true) → spell bigB letB s.data.toList = true) := spell_true bigB letB s hpos (by omega) hc
    have HA : Hid (∀ k, 1 ≤ k → (hk : k < s.size) → letB (s[k].toNat : Int) = false → spell bigB letB s.data.toList = false) := fun k h1 hk => spell_at bigB letB s k h1 hk
    go_enter Try.func55, Try.ntmps55
    go_wp2_with (go_at_call 76; refine (big_any _ _).mono ?_; rintro e w' ⟨rfl, rfl⟩)
    go_loop [7] (fun i => ∃ k : Nat, 1 ≤ k ∧ k ≤ s.size ∧ i = .int .i64 k ∧ (∀ j, 1 ≤ j → j < k → (hj : j < s.size) → letB (s[j].toNat : Int) = true)) (fun i => s.size - (intOf i).toNat)
    case atStart => exact ⟨1, by omega, by omega, rfl, fun j h1 h2 => by omega⟩
    case round =>
      obtain ⟨k, hk1, hk, rfl, hall⟩ := hrel
      have HL : Hid (∀ j, 1 ≤ j → j < k → (hj : j < s.size) → letB (s[j].toNat : Int) = true) := hall
      clear hall
      by_cases hlt : k < s.size
      · cases hd : letB (s[k].toNat : Int) with
        | false =>
          go_wp2_with (go_at_call 75; refine (letter_any _ _).mono ?_; rintro e w' ⟨rfl, rfl⟩)
          go_ret
          exact ⟨ret_bool (HA.out k hk1 hlt hd).symm, rfl⟩
        | true =>
          go_wp2_with (go_at_call 75; refine (letter_any _ _).mono ?_; rintro e w' ⟨rfl, rfl⟩)
          go_round
          case rel =>
            refine ⟨k + 1, by omega, by omega, by go_num, fun j h1 h2 hj => ?_⟩
            by_cases hjk : j = k
            · subst hjk; exact hd
            · exact HL.out j h1 (by omega) hj
          case measure => simp [intOf]; omega
      · go_wp2_with fail
        go_ret
        exact ⟨ret_bool (HT.out fun j h1 hj => HL.out j h1 (by omega) hj).symm, rfl⟩

set_option maxHeartbeats 1000000 in
theorem type_any (s : ByteArray) (w : World) (hs : s.size ≤ maxLen) :
    Calls Try.prog 57 #[.string s] w fun e w' => e = .returned (.bool (typeB s.data.toList)) ∧ w' = w := by
  go_enter Try.func57, Try.ntmps57
  go_wp2_with (go_at_call 55; refine (spelled_type _ _ hs).mono ?_; rintro e w' ⟨rfl, rfl⟩)
  go_ret
  exact ⟨rfl, rfl⟩

set_option maxHeartbeats 1000000 in
theorem spelled_iden (s : ByteArray) (w : World) (hs : s.size ≤ maxLen) :
    Calls Try.prog 55 #[.string s, .func (.func 77) #[] #[], .func (.func 77) #[] #[]] w fun e w' => e = .returned (.bool (idenB s.data.toList)) ∧ w' = w := by
  unfold maxLen at hs
  by_cases he : s.size = 0
  · have hb := spell_empty idB idB s he
    have hlt : (s.size : Int) < 1 := by omega
    have HB : Hid (spell idB idB s.data.toList = false) := hb
    clear he hb
    go_enter Try.func55, Try.ntmps55
    go_wp2_with fail
    go_ret
    exact ⟨ret_bool HB.out.symm, rfl⟩
  have hpos : 0 < s.size := by omega
  have hnl : ¬ (s.size : Int) < 1 := by omega
  by_cases hl : 32 < s.size
  · have hb := spell_long idB idB s hl
    have HB : Hid (spell idB idB s.data.toList = false) := hb
    have hgt : (32 : Int) < (s.size : Int) := by omega
    clear he hb
    go_enter Try.func55, Try.ntmps55
    go_wp2_with fail
    go_ret
    exact ⟨ret_bool HB.out.symm, rfl⟩
  have hle : ¬ (32 : Int) < (s.size : Int) := by omega
  clear he
  cases hc : idB (s[0].toNat : Int) with
  | false =>
    have HB : Hid (spell idB idB s.data.toList = false) := spell_first idB idB s hpos hc
    go_enter Try.func55, Try.ntmps55
    go_wp2_with (go_at_call 77; refine (id_any _ _).mono ?_; rintro e w' ⟨rfl, rfl⟩)
    go_ret
    exact ⟨ret_bool HB.out.symm, rfl⟩
  | true =>
    have HT : Hid ((∀ k, 1 ≤ k → (hk : k < s.size) → idB (s[k].toNat : Int) = true) → spell idB idB s.data.toList = true) := spell_true idB idB s hpos (by omega) hc
    have HA : Hid (∀ k, 1 ≤ k → (hk : k < s.size) → idB (s[k].toNat : Int) = false → spell idB idB s.data.toList = false) := fun k h1 hk => spell_at idB idB s k h1 hk
    go_enter Try.func55, Try.ntmps55
    go_wp2_with (go_at_call 77; refine (id_any _ _).mono ?_; rintro e w' ⟨rfl, rfl⟩)
    go_loop [7] (fun i => ∃ k : Nat, 1 ≤ k ∧ k ≤ s.size ∧ i = .int .i64 k ∧ (∀ j, 1 ≤ j → j < k → (hj : j < s.size) → idB (s[j].toNat : Int) = true)) (fun i => s.size - (intOf i).toNat)
    case atStart => exact ⟨1, by omega, by omega, rfl, fun j h1 h2 => by omega⟩
    case round =>
      obtain ⟨k, hk1, hk, rfl, hall⟩ := hrel
      have HL : Hid (∀ j, 1 ≤ j → j < k → (hj : j < s.size) → idB (s[j].toNat : Int) = true) := hall
      clear hall
      by_cases hlt : k < s.size
      · cases hd : idB (s[k].toNat : Int) with
        | false =>
          go_wp2_with (go_at_call 77; refine (id_any _ _).mono ?_; rintro e w' ⟨rfl, rfl⟩)
          go_ret
          exact ⟨ret_bool (HA.out k hk1 hlt hd).symm, rfl⟩
        | true =>
          go_wp2_with (go_at_call 77; refine (id_any _ _).mono ?_; rintro e w' ⟨rfl, rfl⟩)
          go_round
          case rel =>
            refine ⟨k + 1, by omega, by omega, by go_num, fun j h1 h2 hj => ?_⟩
            by_cases hjk : j = k
            · subst hjk; exact hd
            · exact HL.out j h1 (by omega) hj
          case measure => simp [intOf]; omega
      · go_wp2_with fail
        go_ret
        exact ⟨ret_bool (HT.out fun j h1 hj => HL.out j h1 (by omega) hj).symm, rfl⟩

set_option maxHeartbeats 1000000 in
theorem iden_any (s : ByteArray) (w : World) (hs : s.size ≤ maxLen) :
    Calls Try.prog 58 #[.string s] w fun e w' => e = .returned (.bool (idenB s.data.toList)) ∧ w' = w := by
  go_enter Try.func58, Try.ntmps58
  go_wp2_with (go_at_call 55; refine (spelled_iden _ _ hs).mono ?_; rintro e w' ⟨rfl, rfl⟩)
  go_ret
  exact ⟨rfl, rfl⟩

set_option maxHeartbeats 1000000 in
theorem spelled_temp (s : ByteArray) (w : World) (hs : s.size ≤ maxLen) :
    Calls Try.prog 55 #[.string s, .func (.func 56) #[] #[], .func (.func 56) #[] #[]] w fun e w' => e = .returned (.bool (tempB s.data.toList)) ∧ w' = w := by
  unfold maxLen at hs
  by_cases he : s.size = 0
  · have hb := spell_empty lodB lodB s he
    have hlt : (s.size : Int) < 1 := by omega
    have HB : Hid (spell lodB lodB s.data.toList = false) := hb
    clear he hb
    go_enter Try.func55, Try.ntmps55
    go_wp2_with fail
    go_ret
    exact ⟨ret_bool HB.out.symm, rfl⟩
  have hpos : 0 < s.size := by omega
  have hnl : ¬ (s.size : Int) < 1 := by omega
  by_cases hl : 32 < s.size
  · have hb := spell_long lodB lodB s hl
    have HB : Hid (spell lodB lodB s.data.toList = false) := hb
    have hgt : (32 : Int) < (s.size : Int) := by omega
    clear he hb
    go_enter Try.func55, Try.ntmps55
    go_wp2_with fail
    go_ret
    exact ⟨ret_bool HB.out.symm, rfl⟩
  have hle : ¬ (32 : Int) < (s.size : Int) := by omega
  clear he
  cases hc : lodB (s[0].toNat : Int) with
  | false =>
    have HB : Hid (spell lodB lodB s.data.toList = false) := spell_first lodB lodB s hpos hc
    go_enter Try.func55, Try.ntmps55
    go_wp2_with (go_at_call 56; refine (lod_any _ _).mono ?_; rintro e w' ⟨rfl, rfl⟩)
    go_ret
    exact ⟨ret_bool HB.out.symm, rfl⟩
  | true =>
    have HT : Hid ((∀ k, 1 ≤ k → (hk : k < s.size) → lodB (s[k].toNat : Int) = true) → spell lodB lodB s.data.toList = true) := spell_true lodB lodB s hpos (by omega) hc
    have HA : Hid (∀ k, 1 ≤ k → (hk : k < s.size) → lodB (s[k].toNat : Int) = false → spell lodB lodB s.data.toList = false) := fun k h1 hk => spell_at lodB lodB s k h1 hk
    go_enter Try.func55, Try.ntmps55
    go_wp2_with (go_at_call 56; refine (lod_any _ _).mono ?_; rintro e w' ⟨rfl, rfl⟩)
    go_loop [7] (fun i => ∃ k : Nat, 1 ≤ k ∧ k ≤ s.size ∧ i = .int .i64 k ∧ (∀ j, 1 ≤ j → j < k → (hj : j < s.size) → lodB (s[j].toNat : Int) = true)) (fun i => s.size - (intOf i).toNat)
    case atStart => exact ⟨1, by omega, by omega, rfl, fun j h1 h2 => by omega⟩
    case round =>
      obtain ⟨k, hk1, hk, rfl, hall⟩ := hrel
      have HL : Hid (∀ j, 1 ≤ j → j < k → (hj : j < s.size) → lodB (s[j].toNat : Int) = true) := hall
      clear hall
      by_cases hlt : k < s.size
      · cases hd : lodB (s[k].toNat : Int) with
        | false =>
          go_wp2_with (go_at_call 56; refine (lod_any _ _).mono ?_; rintro e w' ⟨rfl, rfl⟩)
          go_ret
          exact ⟨ret_bool (HA.out k hk1 hlt hd).symm, rfl⟩
        | true =>
          go_wp2_with (go_at_call 56; refine (lod_any _ _).mono ?_; rintro e w' ⟨rfl, rfl⟩)
          go_round
          case rel =>
            refine ⟨k + 1, by omega, by omega, by go_num, fun j h1 h2 hj => ?_⟩
            by_cases hjk : j = k
            · subst hjk; exact hd
            · exact HL.out j h1 (by omega) hj
          case measure => simp [intOf]; omega
      · go_wp2_with fail
        go_ret
        exact ⟨ret_bool (HT.out fun j h1 hj => HL.out j h1 (by omega) hj).symm, rfl⟩

set_option maxHeartbeats 1000000 in
theorem temp_any (s : ByteArray) (w : World) (hs : s.size ≤ maxLen) :
    Calls Try.prog 40 #[.string s] w fun e w' => e = .returned (.bool (tempB s.data.toList)) ∧ w' = w := by
  go_enter Try.func40, Try.ntmps40
  go_wp2_with (go_at_call 55; refine (spelled_temp _ _ hs).mono ?_; rintro e w' ⟨rfl, rfl⟩)
  go_ret
  exact ⟨rfl, rfl⟩

end Go.Proofs.Ytinmagodckkedaa

/-
  The contracts of Key, Print and Parse of package name.
-/
namespace Go.Proofs.Ytinmagodckkedaa
open Go.RowKit

def keyB (a b : ByteArray) : Bool := typeB a.data.toList && idenB b.data.toList

theorem bcell {W w1 : World} (hb : Below W.heap.size W w1) : (∀ b o, b < W.heap.size → w1.cell? ⟨b, o, none⟩ = W.cell? ⟨b, o, none⟩) ∧ (∀ b o, b < W.heap.size → w1.frozen? ⟨b, o, none⟩ = W.frozen? ⟨b, o, none⟩) :=
  ⟨fun b o h => hb.cell (p := ⟨b, o, none⟩) h, fun b o h => hb.frozen (p := ⟨b, o, none⟩) h⟩

set_option maxHeartbeats 400000 in
theorem key_any (a b : ByteArray) (w : World) (ha : a.size ≤ maxLen) (hb : b.size ≤ maxLen) :
    Calls Try.prog 41 #[.agg #[.string a, .string b]] w fun e w' => e = .returned (.bool (keyB a b)) ∧ Below w.heap.size w w' := by
  have HK : Hid (keyB a b = (typeB a.data.toList && idenB b.data.toList)) := rfl
  cases ht : typeB a.data.toList
  all_goals
    go_enter Try.func41, Try.ntmps41
    go_wp2_with (first | (go_at_call 57; refine (type_any _ _ ha).mono ?_; rintro e w' ⟨rfl, rfl⟩) | (go_at_call 58; refine (iden_any _ _ hb).mono ?_; rintro e w' ⟨rfl, rfl⟩))
    go_ret
    exact ⟨ret_bool (by rw [HK.out, ht]; rfl), (Below.refl _ _).alloc (Nat.le_refl _) _⟩

set_option maxHeartbeats 400000 in
theorem nprint_no (a b : ByteArray) (w : World) (ha : a.size ≤ maxLen) (hb : b.size ≤ maxLen) (hk : keyB a b = false) :
    Calls Try.prog 39 #[.agg #[.string a, .string b]] w fun e w' => e = .returned (.tuple #[.string ⟨#[]⟩, .int .i64 2]) ∧ Below w.heap.size w w' := by
  go_enter Try.func39, Try.ntmps39
  go_wp2_with (go_at_call 41; refine (key_any _ _ _ ha hb).mono ?_; rintro e w1 ⟨rfl, hq⟩)
  go_ret2
  exact ⟨rfl, ((Below.refl _ _).alloc (Nat.le_refl _) _).trans (hq.mono (by simp))⟩

set_option maxHeartbeats 400000 in
theorem nprint_yes (a b : ByteArray) (w : World) (ha : a.size ≤ maxLen) (hb : b.size ≤ maxLen) (ha32 : a.size ≤ 32) (hb32 : b.size ≤ 32) (hk : keyB a b = true) :
    Calls Try.prog 39 #[.agg #[.string a, .string b]] w fun e w' => e = .returned (.tuple #[.string (a ++ ⟨#[47]⟩ ++ b), .int .i64 0]) ∧ Below w.heap.size w w' := by
  go_enter Try.func39, Try.ntmps39
  go_wp2_with (go_at_call 41; refine (key_any _ _ _ ha hb).mono ?_; rintro e w1 ⟨rfl, hq⟩; obtain ⟨hc, hf⟩ := bcell hq)
  go_ret2
  refine ⟨?_, ((Below.refl _ _).alloc (Nat.le_refl _) _).trans (hq.mono (by simp))⟩
  rfl

theorem typeB_len {l : List UInt8} (h : typeB l = true) : l.length ≤ 32 := by
  cases l with
  | nil => simp
  | cons c r => simp [typeB, spell] at h; simp; omega
theorem idenB_len {l : List UInt8} (h : idenB l = true) : l.length ≤ 32 := by
  cases l with
  | nil => simp
  | cons c r => simp [idenB, spell] at h; simp; omega
theorem idenB_empty : idenB [] = false := rfl

theorem keyB_empty (a : ByteArray) : keyB a ⟨#[]⟩ = false := by
  unfold keyB
  rw [show (⟨#[]⟩ : ByteArray).data.toList = [] from rfl, idenB_empty, Bool.and_false]

theorem ext_size (s : ByteArray) (i j : Nat) (h : s.size ≤ maxLen) : (s.extract i j).size ≤ maxLen := by
  have : (s.extract i j).size ≤ s.size := by simp; omega
  omega

set_option maxHeartbeats 400000 in
/-- No slash: no key. -/
theorem parse_bare (s : ByteArray) (w : World) (hs : s.size ≤ maxLen) (hix : Lib.indexByte s.data.toList 47 = -1) :
    Calls Try.prog 50 #[.string s] w fun e w' => e = .returned (.tuple #[.agg #[.string ⟨#[]⟩, .string ⟨#[]⟩], .int .i64 2]) ∧ Below w.heap.size w w' := by
  have HX : Hid (Lib.indexByte s.data.toList 47 = -1) := hix
  clear hix
  have hk := keyB_empty s
  have h0 : (⟨#[]⟩ : ByteArray).size ≤ maxLen := by decide
  go_enter Try.func50, Try.ntmps50
  go_wp2_with (first | (go_at_call 71; refine (cut_no _ _ _ HX.out).mono ?_; rintro e w' ⟨rfl, rfl⟩) | (go_at_call 41; refine (key_any _ _ _ hs h0).mono ?_; rintro e w1 ⟨rfl, hq⟩; obtain ⟨hc, hf⟩ := bcell hq))
  have c0 : w1.cell? ⟨w.heap.size, 0, none⟩ = some (.string ⟨#[]⟩) := by rw [hc _ _ (by simp; omega)]; simp [go_sem]
  have c1 : w1.cell? ⟨w.heap.size, 1, none⟩ = some (.string ⟨#[]⟩) := by rw [hc _ _ (by simp; omega)]; simp [go_sem]
  exact bodyPost_ret (v := .tuple #[.agg #[.string ⟨#[]⟩, .string ⟨#[]⟩], .int .i64 2]) (by simp [results, Try.results50, go_sem, c0, c1]) rfl
    ⟨rfl, (((((Below.refl _ _).alloc (Nat.le_refl _) _).alloc (by simp) _).trans (hq.mono (by simp; omega))).setCell (by simp) _).setCell (by simp) _⟩

set_option maxHeartbeats 400000 in
theorem parse_no (s : ByteArray) (w : World) (hs : s.size ≤ maxLen) (i : Nat) (hix : Lib.indexByte s.data.toList 47 = (i : Int)) (hi : i < s.size)
    (hk : keyB (s.extract 0 i) (s.extract (i + 1) s.size) = false) :
    Calls Try.prog 50 #[.string s] w fun e w' => e = .returned (.tuple #[.agg #[.string ⟨#[]⟩, .string ⟨#[]⟩], .int .i64 2]) ∧ Below w.heap.size w w' := by
  have HX : Hid (Lib.indexByte s.data.toList 47 = (i : Int)) := hix
  have h1 := ext_size s 0 i hs
  have h2 := ext_size s (i + 1) s.size hs
  have HH : Hid (i < s.size ∧ s.size ≤ maxLen ∧ (s.extract 0 i).size ≤ maxLen ∧ (s.extract (i + 1) s.size).size ≤ maxLen) := ⟨hi, hs, h1, h2⟩
  clear hix hi hs h1 h2
  go_enter Try.func50, Try.ntmps50
  go_wp2_with (first | (go_at_call 71; refine (cut_yes _ _ _ i HX.out HH.out.1 HH.out.2.1).mono ?_; rintro e w' ⟨rfl, n, rfl⟩) | (go_at_call 41; refine (key_any _ _ _ HH.out.2.2.1 HH.out.2.2.2).mono ?_; rintro e w1 ⟨rfl, hq⟩; obtain ⟨hc, hf⟩ := bcell hq))
  have c0 : w1.cell? ⟨w.heap.size, 0, none⟩ = some (.string ⟨#[]⟩) := by rw [hc _ _ (by simp; omega)]; simp [go_sem]
  have c1 : w1.cell? ⟨w.heap.size, 1, none⟩ = some (.string ⟨#[]⟩) := by rw [hc _ _ (by simp; omega)]; simp [go_sem]
  exact bodyPost_ret (v := .tuple #[.agg #[.string ⟨#[]⟩, .string ⟨#[]⟩], .int .i64 2]) (by simp [results, Try.results50, go_sem, c0, c1]) rfl
    ⟨rfl, ((((below_drewN ((Below.refl _ _).alloc (Nat.le_refl _) _) _).alloc (by simp) _).trans (hq.mono (by simp; omega))).setCell (by simp) _).setCell (by simp) _⟩

set_option maxHeartbeats 400000 in
theorem parse_yes (s : ByteArray) (w : World) (hs : s.size ≤ maxLen) (i : Nat) (hix : Lib.indexByte s.data.toList 47 = (i : Int)) (hi : i < s.size)
    (hk : keyB (s.extract 0 i) (s.extract (i + 1) s.size) = true) :
    Calls Try.prog 50 #[.string s] w fun e w' => e = .returned (.tuple #[.agg #[.string (s.extract 0 i), .string (s.extract (i + 1) s.size)], .int .i64 0]) ∧ Below w.heap.size w w' := by
  have HX : Hid (Lib.indexByte s.data.toList 47 = (i : Int)) := hix
  have h1 := ext_size s 0 i hs
  have h2 := ext_size s (i + 1) s.size hs
  have HH : Hid (i < s.size ∧ s.size ≤ maxLen ∧ (s.extract 0 i).size ≤ maxLen ∧ (s.extract (i + 1) s.size).size ≤ maxLen) := ⟨hi, hs, h1, h2⟩
  clear hix hi hs h1 h2
  go_enter Try.func50, Try.ntmps50
  go_wp2_with (first | (go_at_call 71; refine (cut_yes _ _ _ i HX.out HH.out.1 HH.out.2.1).mono ?_; rintro e w' ⟨rfl, n, rfl⟩) | (go_at_call 41; refine (key_any _ _ _ HH.out.2.2.1 HH.out.2.2.2).mono ?_; rintro e w1 ⟨rfl, hq⟩; obtain ⟨hc, hf⟩ := bcell hq))
  have c0 : w1.cell? ⟨w.heap.size, 0, none⟩ = some (.string ⟨#[]⟩) := by rw [hc _ _ (by simp; omega)]; simp [go_sem]
  have c1 : w1.cell? ⟨w.heap.size, 1, none⟩ = some (.string ⟨#[]⟩) := by rw [hc _ _ (by simp; omega)]; simp [go_sem]
  exact bodyPost_ret (v := .tuple #[.agg #[.string (s.extract 0 i), .string (s.extract (i + 1) s.size)], .int .i64 0]) (by simp [results, Try.results50, go_sem, c0, c1]) rfl
    ⟨rfl, ((((below_drewN ((Below.refl _ _).alloc (Nat.le_refl _) _) _).alloc (by simp) _).trans (hq.mono (by simp; omega))).setCell (by simp) _).setCell (by simp) _⟩

end Go.Proofs.Ytinmagodckkedaa

/-
  The contracts of the reference's class, Type, ID, Field and Temp.
-/
namespace Go.Proofs.Ytinmagodckkedaa
open Go.RowKit

set_option maxHeartbeats 1000000 in
theorem rtype_any (s : ByteArray) (w : World) (hs : s.size ≤ maxLen) :
    Calls Try.prog 44 #[.string s] w fun e w' => e = .returned (.bool (typeB s.data.toList)) ∧ w' = w := by
  unfold maxLen at hs
  have HE := hid (spell_empty bigB letB s)
  have HG := hid (spell_long bigB letB s)
  have HF := hid (spell_first bigB letB s)
  have HA := hid (spell_at bigB letB s)
  have HT := hid (spell_true bigB letB s)
  have HB : Hid (typeB s.data.toList = spell bigB letB s.data.toList) := rfl
  go_enter Try.func44, Try.ntmps44
  go_wp2
  go_loop [3] (fun i => ∃ k : Nat, k ≤ s.size ∧ i = .int .i64 k ∧ (∀ j, j < k → (hj : j < s.size) → (j = 0 → bigB (s[j].toNat : Int) = true) ∧ (1 ≤ j → letB (s[j].toNat : Int) = true))) (fun i => s.size - (intOf i).toNat)
  case atStart => exact ⟨0, by omega, rfl, fun j h => by omega⟩
  case round =>
    obtain ⟨k, hk, rfl, hall⟩ := hrel
    have HL := hid hall
    clear hall
    by_cases hlt : k < s.size
    · rcases Nat.eq_zero_or_pos k with h0 | h0
      · have HZ := hid h0
        have hz : ((k : Int) == 0) = true := by rw [h0]; rfl
        clear h0
        rcases cls_cases (s[k].toNat : Int) with h | h | h | h | h
        all_goals
          have HC := hid h
          clear h
          go_wp2_with (go_at_call 43; refine (class_any _ _).mono ?_; rintro e w' ⟨rfl, rfl⟩; rw [HC.out.1])
          first
          | (go_ret; exact ⟨ret_bool (by rw [HB.out]; have hz' := HZ.out; subst hz'; exact (HF.out hlt (by first | exact HC.out.2.1 | exact HC.out.2.2.1 | exact HC.out.2.2.2.2.1 | exact HC.out.2.2.2.2.2)).symm), rfl⟩)
          | (go_round
             case rel =>
               refine ⟨k + 1, by omega, by go_num, fun j h1 hj => ?_⟩
               have hz' := HZ.out
               have hj0 : j = k := by omega
               subst hj0
               exact ⟨fun _ => (by first | exact HC.out.2.1 | exact HC.out.2.2.1 | exact HC.out.2.2.2.2.1 | exact HC.out.2.2.2.2.2), fun _ => by omega⟩
             case measure => simp [intOf]; omega)
      · have HZ := hid h0
        have hz : ((k : Int) == 0) = false := by rw [beq_eq_false_iff_ne]; omega
        clear h0
        rcases cls_cases (s[k].toNat : Int) with h | h | h | h | h
        all_goals
          have HC := hid h
          clear h
          go_wp2_with (go_at_call 43; refine (class_any _ _).mono ?_; rintro e w' ⟨rfl, rfl⟩; rw [HC.out.1])
          first
          | (go_ret; exact ⟨ret_bool (by rw [HB.out]; exact (HA.out k HZ.out hlt (by first | exact HC.out.2.2.2.1 | exact HC.out.2.2.2.2.1 | exact HC.out.2.2.2.2.2)).symm), rfl⟩)
          | (go_round
             case rel =>
               refine ⟨k + 1, by omega, by go_num, fun j h1 hj => ?_⟩
               by_cases hjk : j = k
               · subst hjk
                 exact ⟨fun e => by have := HZ.out; omega, fun _ => (by first | exact HC.out.2.2.2.1 | exact HC.out.2.2.2.2.1 | exact HC.out.2.2.2.2.2)⟩
               · exact HL.out j (by omega) hj
             case measure => simp [intOf]; omega)
    · have hks : k = s.size := by omega
      rcases Nat.eq_zero_or_pos s.size with hz | hz
      · have hn : ¬ (0 : Int) < (s.size : Int) := by omega
        have HZ := hid hz
        clear hz hks
        go_wp2_with fail
        go_ret
        exact ⟨ret_bool (by rw [HB.out]; exact (HE.out HZ.out).symm), rfl⟩
      · have hn : (0 : Int) < (s.size : Int) := by omega
        by_cases hm : s.size ≤ 32
        · have hm' : (s.size : Int) ≤ 32 := by omega
          have HK := hid hks
          clear hks
          go_wp2_with fail
          go_ret
          refine ⟨ret_bool (by rw [HB.out]; exact (HT.out hz hm ((HL.out 0 (by have := HK.out; omega) hz).1 rfl) (fun j h1 hj => (HL.out j (by have := HK.out; omega) hj).2 h1)).symm), rfl⟩
        · have hm' : ¬ (s.size : Int) ≤ 32 := by omega
          clear hks
          go_wp2_with fail
          go_ret
          exact ⟨ret_bool (by rw [HB.out]; exact (HG.out (by omega)).symm), rfl⟩

set_option maxHeartbeats 1000000 in
theorem riden_any (s : ByteArray) (w : World) (hs : s.size ≤ maxLen) :
    Calls Try.prog 45 #[.string s] w fun e w' => e = .returned (.bool (idenB s.data.toList)) ∧ w' = w := by
  unfold maxLen at hs
  have HE := hid (spell_empty idB idB s)
  have HG := hid (spell_long idB idB s)
  have HF := hid (spell_first idB idB s)
  have HA := hid (spell_at idB idB s)
  have HT := hid (spell_true idB idB s)
  have HB : Hid (idenB s.data.toList = spell idB idB s.data.toList) := rfl
  go_enter Try.func45, Try.ntmps45
  go_wp2
  go_loop [3] (fun i => ∃ k : Nat, k ≤ s.size ∧ i = .int .i64 k ∧ (∀ j, j < k → (hj : j < s.size) → (j = 0 → idB (s[j].toNat : Int) = true) ∧ (1 ≤ j → idB (s[j].toNat : Int) = true))) (fun i => s.size - (intOf i).toNat)
  case atStart => exact ⟨0, by omega, rfl, fun j h => by omega⟩
  case round =>
    obtain ⟨k, hk, rfl, hall⟩ := hrel
    have HL := hid hall
    clear hall
    by_cases hlt : k < s.size
    · rcases Nat.eq_zero_or_pos k with h0 | h0
      · have HZ := hid h0
        have hz : ((k : Int) == 0) = true := by rw [h0]; rfl
        clear h0
        rcases cls_cases (s[k].toNat : Int) with h | h | h | h | h
        all_goals
          have HC := hid h
          clear h
          go_wp2_with (go_at_call 43; refine (class_any _ _).mono ?_; rintro e w' ⟨rfl, rfl⟩; rw [HC.out.1])
          first
          | (go_ret; exact ⟨ret_bool (by rw [HB.out]; have hz' := HZ.out; subst hz'; exact (HF.out hlt (by first | exact HC.out.2.1 | exact HC.out.2.2.1 | exact HC.out.2.2.2.2.1 | exact HC.out.2.2.2.2.2)).symm), rfl⟩)
          | (go_round
             case rel =>
               refine ⟨k + 1, by omega, by go_num, fun j h1 hj => ?_⟩
               have hz' := HZ.out
               have hj0 : j = k := by omega
               subst hj0
               exact ⟨fun _ => (by first | exact HC.out.2.1 | exact HC.out.2.2.1 | exact HC.out.2.2.2.2.1 | exact HC.out.2.2.2.2.2), fun _ => by omega⟩
             case measure => simp [intOf]; omega)
      · have HZ := hid h0
        have hz : ((k : Int) == 0) = false := by rw [beq_eq_false_iff_ne]; omega
        clear h0
        rcases cls_cases (s[k].toNat : Int) with h | h | h | h | h
        all_goals
          have HC := hid h
          clear h
          go_wp2_with (go_at_call 43; refine (class_any _ _).mono ?_; rintro e w' ⟨rfl, rfl⟩; rw [HC.out.1])
          first
          | (go_ret; exact ⟨ret_bool (by rw [HB.out]; exact (HA.out k HZ.out hlt (by first | exact HC.out.2.2.2.1 | exact HC.out.2.2.2.2.1 | exact HC.out.2.2.2.2.2)).symm), rfl⟩)
          | (go_round
             case rel =>
               refine ⟨k + 1, by omega, by go_num, fun j h1 hj => ?_⟩
               by_cases hjk : j = k
               · subst hjk
                 exact ⟨fun e => by have := HZ.out; omega, fun _ => (by first | exact HC.out.2.2.2.1 | exact HC.out.2.2.2.2.1 | exact HC.out.2.2.2.2.2)⟩
               · exact HL.out j (by omega) hj
             case measure => simp [intOf]; omega)
    · have hks : k = s.size := by omega
      rcases Nat.eq_zero_or_pos s.size with hz | hz
      · have hn : ¬ (0 : Int) < (s.size : Int) := by omega
        have HZ := hid hz
        clear hz hks
        go_wp2_with fail
        go_ret
        exact ⟨ret_bool (by rw [HB.out]; exact (HE.out HZ.out).symm), rfl⟩
      · have hn : (0 : Int) < (s.size : Int) := by omega
        by_cases hm : s.size ≤ 32
        · have hm' : (s.size : Int) ≤ 32 := by omega
          have HK := hid hks
          clear hks
          go_wp2_with fail
          go_ret
          refine ⟨ret_bool (by rw [HB.out]; exact (HT.out hz hm ((HL.out 0 (by have := HK.out; omega) hz).1 rfl) (fun j h1 hj => (HL.out j (by have := HK.out; omega) hj).2 h1)).symm), rfl⟩
        · have hm' : ¬ (s.size : Int) ≤ 32 := by omega
          clear hks
          go_wp2_with fail
          go_ret
          exact ⟨ret_bool (by rw [HB.out]; exact (HG.out (by omega)).symm), rfl⟩

set_option maxHeartbeats 1000000 in
theorem rtemp_any (s : ByteArray) (w : World) (hs : s.size ≤ maxLen) :
    Calls Try.prog 24 #[.string s] w fun e w' => e = .returned (.bool (tempB s.data.toList)) ∧ w' = w := by
  unfold maxLen at hs
  have HE := hid (spell_empty lodB lodB s)
  have HG := hid (spell_long lodB lodB s)
  have HF := hid (spell_first lodB lodB s)
  have HA := hid (spell_at lodB lodB s)
  have HT := hid (spell_true lodB lodB s)
  have HB : Hid (tempB s.data.toList = spell lodB lodB s.data.toList) := rfl
  go_enter Try.func24, Try.ntmps24
  go_wp2
  go_loop [3] (fun i => ∃ k : Nat, k ≤ s.size ∧ i = .int .i64 k ∧ (∀ j, j < k → (hj : j < s.size) → (j = 0 → lodB (s[j].toNat : Int) = true) ∧ (1 ≤ j → lodB (s[j].toNat : Int) = true))) (fun i => s.size - (intOf i).toNat)
  case atStart => exact ⟨0, by omega, rfl, fun j h => by omega⟩
  case round =>
    obtain ⟨k, hk, rfl, hall⟩ := hrel
    have HL := hid hall
    clear hall
    by_cases hlt : k < s.size
    · rcases Nat.eq_zero_or_pos k with h0 | h0
      · have HZ := hid h0
        have hz : ((k : Int) == 0) = true := by rw [h0]; rfl
        clear h0
        rcases cls_cases (s[k].toNat : Int) with h | h | h | h | h
        all_goals
          have HC := hid h
          clear h
          go_wp2_with (go_at_call 43; refine (class_any _ _).mono ?_; rintro e w' ⟨rfl, rfl⟩; rw [HC.out.1])
          first
          | (go_ret; exact ⟨ret_bool (by rw [HB.out]; have hz' := HZ.out; subst hz'; exact (HF.out hlt (by first | exact HC.out.2.1 | exact HC.out.2.2.1 | exact HC.out.2.2.2.2.1 | exact HC.out.2.2.2.2.2)).symm), rfl⟩)
          | (go_round
             case rel =>
               refine ⟨k + 1, by omega, by go_num, fun j h1 hj => ?_⟩
               have hz' := HZ.out
               have hj0 : j = k := by omega
               subst hj0
               exact ⟨fun _ => (by first | exact HC.out.2.1 | exact HC.out.2.2.1 | exact HC.out.2.2.2.2.1 | exact HC.out.2.2.2.2.2), fun _ => by omega⟩
             case measure => simp [intOf]; omega)
      · have HZ := hid h0
        have hz : ((k : Int) == 0) = false := by rw [beq_eq_false_iff_ne]; omega
        clear h0
        rcases cls_cases (s[k].toNat : Int) with h | h | h | h | h
        all_goals
          have HC := hid h
          clear h
          go_wp2_with (go_at_call 43; refine (class_any _ _).mono ?_; rintro e w' ⟨rfl, rfl⟩; rw [HC.out.1])
          first
          | (go_ret; exact ⟨ret_bool (by rw [HB.out]; exact (HA.out k HZ.out hlt (by first | exact HC.out.2.2.2.1 | exact HC.out.2.2.2.2.1 | exact HC.out.2.2.2.2.2)).symm), rfl⟩)
          | (go_round
             case rel =>
               refine ⟨k + 1, by omega, by go_num, fun j h1 hj => ?_⟩
               by_cases hjk : j = k
               · subst hjk
                 exact ⟨fun e => by have := HZ.out; omega, fun _ => (by first | exact HC.out.2.2.2.1 | exact HC.out.2.2.2.2.1 | exact HC.out.2.2.2.2.2)⟩
               · exact HL.out j (by omega) hj
             case measure => simp [intOf]; omega)
    · have hks : k = s.size := by omega
      rcases Nat.eq_zero_or_pos s.size with hz | hz
      · have hn : ¬ (0 : Int) < (s.size : Int) := by omega
        have HZ := hid hz
        clear hz hks
        go_wp2_with fail
        go_ret
        exact ⟨ret_bool (by rw [HB.out]; exact (HE.out HZ.out).symm), rfl⟩
      · have hn : (0 : Int) < (s.size : Int) := by omega
        by_cases hm : s.size ≤ 32
        · have hm' : (s.size : Int) ≤ 32 := by omega
          have HK := hid hks
          clear hks
          go_wp2_with fail
          go_ret
          refine ⟨ret_bool (by rw [HB.out]; exact (HT.out hz hm ((HL.out 0 (by have := HK.out; omega) hz).1 rfl) (fun j h1 hj => (HL.out j (by have := HK.out; omega) hj).2 h1)).symm), rfl⟩
        · have hm' : ¬ (s.size : Int) ≤ 32 := by omega
          clear hks
          go_wp2_with fail
          go_ret
          exact ⟨ret_bool (by rw [HB.out]; exact (HG.out (by omega)).symm), rfl⟩

end Go.Proofs.Ytinmagodckkedaa

/-
  The contracts of the reference's Key and Print.
-/
namespace Go.Proofs.Ytinmagodckkedaa
open Go.RowKit

set_option maxHeartbeats 400000 in
theorem rkey_any (a b : ByteArray) (w : World) (ha : a.size ≤ maxLen) (hb : b.size ≤ maxLen) :
    Calls Try.prog 25 #[.agg #[.string a, .string b]] w fun e w' => e = .returned (.bool (keyB a b)) ∧ Below w.heap.size w w' := by
  have HK : Hid (keyB a b = (typeB a.data.toList && idenB b.data.toList)) := rfl
  cases ht : typeB a.data.toList
  all_goals
    go_enter Try.func25, Try.ntmps25
    go_wp2_with (first | (go_at_call 44; refine (rtype_any _ _ ha).mono ?_; rintro e w' ⟨rfl, rfl⟩) | (go_at_call 45; refine (riden_any _ _ hb).mono ?_; rintro e w' ⟨rfl, rfl⟩))
    go_ret
    exact ⟨ret_bool (by rw [HK.out, ht]; rfl), (Below.refl _ _).alloc (Nat.le_refl _) _⟩

end Go.Proofs.Ytinmagodckkedaa

/-
  There and back: Parse of what Print makes, and Print of what Parse gives.
-/
namespace Go.Proofs.Ytinmagodckkedaa
open Go.RowKit

theorem ba_ext {a b : ByteArray} (h : a.data.toList = b.data.toList) : a = b := by
  obtain ⟨⟨x⟩⟩ := a
  obtain ⟨⟨y⟩⟩ := b
  simp at h
  rw [h]

theorem ba_append (a b : ByteArray) : (a ++ b).data.toList = a.data.toList ++ b.data.toList := by simp

theorem letB_slash : letB (47 : Int) = false := by decide
theorem bigB_slash : bigB (47 : Int) = false := by decide

theorem typeB_slash {l : List UInt8} (h : typeB l = true) : (47 : UInt8) ∉ l := by
  cases l with
  | nil => simp
  | cons c r =>
    simp only [typeB, spell, Bool.and_eq_true, List.all_eq_true] at h
    obtain ⟨⟨_, h1⟩, h2⟩ := h
    simp only [List.mem_cons, not_or]
    refine ⟨?_, ?_⟩
    · rintro rfl
      rw [show ((47 : UInt8).toNat : Int) = 47 from rfl, bigB_slash] at h1
      cases h1
    · intro hm
      have := h2 _ hm
      rw [show ((47 : UInt8).toNat : Int) = 47 from rfl, letB_slash] at this
      cases this

theorem ix_first (a b : List UInt8) (c : UInt8) (h : c ∉ a) : Lib.indexByte (a ++ c :: b) c = (a.length : Int) := by
  induction a with
  | nil => simp [Lib.indexByte]
  | cons x a ih =>
    simp only [List.mem_cons, not_or] at h
    have hx : (x == c) = false := by rw [beq_eq_false_iff_ne]; exact fun e => h.1 e.symm
    rw [List.cons_append]
    unfold Lib.indexByte
    rw [hx, ih h.2]
    have : ((a.length : Int) == -1) = false := by rw [beq_eq_false_iff_ne]; omega
    simp [this]

theorem keyB_parts {a b : ByteArray} (h : keyB a b = true) : typeB a.data.toList = true ∧ idenB b.data.toList = true := by
  simpa [keyB] using h

theorem keyB_sizes {a b : ByteArray} (h : keyB a b = true) : a.size ≤ 32 ∧ b.size ≤ 32 := by
  obtain ⟨h1, h2⟩ := keyB_parts h
  exact ⟨by simpa using typeB_len h1, by simpa using idenB_len h2⟩

theorem cat_data (a b : ByteArray) : (a ++ ⟨#[47]⟩ ++ b).data.toList = a.data.toList ++ (47 : UInt8) :: b.data.toList := by
  rw [ba_append, ba_append, List.append_assoc]; rfl

theorem parse_back (a b : ByteArray) (w : World) (hk : keyB a b = true) :
    Calls Try.prog 50 #[.string (a ++ ⟨#[47]⟩ ++ b)] w fun e w' => e = .returned (.tuple #[.agg #[.string a, .string b], .int .i64 0]) ∧ Below w.heap.size w w' := by
  obtain ⟨s1, s2⟩ := keyB_sizes hk
  have hd := cat_data a b
  have hix : Lib.indexByte (a ++ ⟨#[47]⟩ ++ b).data.toList 47 = (a.size : Int) := by
    rw [hd, ix_first _ _ _ (typeB_slash (keyB_parts hk).1)]; rfl
  have hsz : (a ++ ⟨#[47]⟩ ++ b).size = a.size + 1 + b.size := by
    simp
    rfl
  have e1 : (a ++ ⟨#[47]⟩ ++ b).extract 0 a.size = a := by
    apply ba_ext
    rw [ext_head, hd]
    have : a.size = a.data.toList.length := rfl
    rw [this, List.take_left]
  have e2 : (a ++ ⟨#[47]⟩ ++ b).extract (a.size + 1) (a ++ ⟨#[47]⟩ ++ b).size = b := by
    apply ba_ext
    rw [ext_tail, hd]
    have : a.size = a.data.toList.length := rfl
    rw [this, ← List.drop_drop, List.drop_left]
    rfl
  have h := parse_yes (a ++ ⟨#[47]⟩ ++ b) w (by rw [hsz]; unfold maxLen; omega) a.size hix (by omega) (by rw [e1, e2]; exact hk)
  rw [e1, e2] at h
  exact h

/-- What Parse gives of s: a key whose text is s, or none. -/
theorem nparse_any (s : ByteArray) (hs : s.size ≤ maxLen) :
    (∃ x y : ByteArray, keyB x y = true ∧ s = x ++ ⟨#[47]⟩ ++ y ∧ ∀ w, Calls Try.prog 50 #[.string s] w fun e w' => e = .returned (.tuple #[.agg #[.string x, .string y], .int .i64 0]) ∧ Below w.heap.size w w') ∨
    (∀ w, Calls Try.prog 50 #[.string s] w fun e w' => e = .returned (.tuple #[.agg #[.string ⟨#[]⟩, .string ⟨#[]⟩], .int .i64 2]) ∧ Below w.heap.size w w') := by
  rcases ix_cases s.data.toList 47 with ⟨h1, _⟩ | ⟨i, h1, h2, h3, _⟩
  · exact .inr fun w => parse_bare s w hs h1
  · have hi : i < s.size := by simpa using h2
    cases hk : keyB (s.extract 0 i) (s.extract (i + 1) s.size) with
    | false => exact .inr fun w => parse_no s w hs i h1 hi hk
    | true =>
      refine .inl ⟨_, _, hk, ?_, fun w => parse_yes s w hs i h1 hi hk⟩
      apply ba_ext
      rw [cat_data, ext_head, ext_tail]
      exact ix_split _ _ _ h2 h3

theorem cell_lt {w : World} {a : Addr} {v : Value} (h : w.cell? a = some v) : a.block < w.heap.size := by
  rcases Nat.lt_or_ge a.block w.heap.size with h' | h'
  · exact h'
  · simp [World.cell?, Array.getElem?_eq_none h'] at h

theorem kept {W w' : World} (hq : Below W.heap.size W w') {b o : Nat} {v : Value} (h : W.cell? ⟨b, o, none⟩ = some v) : w'.cell? ⟨b, o, none⟩ = some v := by
  rw [(bcell hq).1 _ _ (cell_lt h)]; exact h

theorem kept_new {w : World} {b o : Nat} {v : Value} (ob : Obj) (h : w.cell? ⟨b, o, none⟩ = some v) : (w.alloc ob).cell? ⟨b, o, none⟩ = some v := by
  rw [← h]
  have hlt : b < w.heap.size := cell_lt h
  simp only [World.cell?, World.alloc, Array.getElem?_push, Nat.ne_of_lt hlt, if_false]

end Go.Proofs.Ytinmagodckkedaa

/-
  The contract of the reference's Parse.
-/
namespace Go.Proofs.Ytinmagodckkedaa
open Go.RowKit

/-- The result's own cells, as they were made. -/
def Blank (w wr : World) : Prop :=
  Below w.heap.size w wr ∧ wr.cell? ⟨w.heap.size, 0, none⟩ = some (.string ⟨#[]⟩) ∧ wr.cell? ⟨w.heap.size, 1, none⟩ = some (.string ⟨#[]⟩) ∧ wr.frozen? ⟨w.heap.size, 0, none⟩ = false ∧ wr.frozen? ⟨w.heap.size, 1, none⟩ = false

theorem Blank.on {w W w' : World} (h : Blank w W) (hq : Below W.heap.size W w') : Blank w w' := by
  obtain ⟨h0, h1, h2, h3, h4⟩ := h
  have hlt : w.heap.size < W.heap.size := cell_lt h1
  obtain ⟨_, hf⟩ := bcell hq
  exact ⟨h0.trans (hq.mono h0.size), kept hq h1, kept hq h2, by rw [hf _ _ hlt]; exact h3, by rw [hf _ _ hlt]; exact h4⟩

set_option maxHeartbeats 1000000 in
theorem rparse_any (s : ByteArray) (w : World) (hs : s.size ≤ maxLen) (x y : ByteArray) (n : Int)
    (hyes : ∀ k, (hk : k < s.size) → s[k] = 47 → keyB (s.extract 0 k) (s.extract (k + 1) s.size) = true → x = s.extract 0 k ∧ y = s.extract (k + 1) s.size ∧ n = 0)
    (hno : (∀ k, (hk : k < s.size) → s[k] = 47 → keyB (s.extract 0 k) (s.extract (k + 1) s.size) = false) → x = ⟨#[]⟩ ∧ y = ⟨#[]⟩ ∧ n = 2) :
    Calls Try.prog 36 #[.string s] w fun e w' => e = .returned (.tuple #[.agg #[.string x, .string y], .int .i64 n]) ∧ Below w.heap.size w w' := by
  have HS := hid hs
  have HY := hid hyes
  have HN := hid hno
  unfold maxLen at hs
  clear hyes hno
  have hbl : Blank w (w.alloc (.cells #[.string ⟨#[]⟩, .string ⟨#[]⟩] 31)) := by
    refine ⟨(Below.refl _ _).alloc (Nat.le_refl _) _, ?_, ?_, ?_, ?_⟩ <;> simp [go_sem]
  have HW := hid hbl
  clear hbl
  go_enter Try.func36, Try.ntmps36
  go_wp2
  go_loopw [4] (fun i wr => ∃ k : Nat, k ≤ s.size ∧ i = .int .i64 k ∧ Blank w wr ∧ (∀ j, j < k → (hj : j < s.size) → s[j] = 47 → keyB (s.extract 0 j) (s.extract (j + 1) s.size) = false)) (fun i _ => s.size - (intOf i).toNat)
  case atStart => exact ⟨0, by omega, rfl, HW.out, fun j h => by omega⟩
  case round =>
    obtain ⟨k, hk, rfl, hb0, hall⟩ := hrel
    have HB := hid hb0
    have HL := hid hall
    clear hall hb0
    by_cases hlt : k < s.size
    · by_cases hc : s[k] = 47
      · have hb : ((s[k].toNat : Int) == 47) = true := by rw [hc]; rfl
        have HC := hid hc
        clear hc
        have c1 : (0 : Int) ≤ ↑k := by omega
        have c2 : (↑k : Int) ≤ ↑s.size := by omega
        have c3 : (0 : Int) ≤ ↑k + 1 := by omega
        have c4 : (↑k + 1 : Int) ≤ ↑s.size := by omega
        go_wp2_with fail
        go_region
        go_wp2_with fail
        have bl1 := HB.out.on (((Below.refl wr.heap.size wr).alloc (Nat.le_refl _) (.cells #[.string (s.extract 0 k), .string (s.extract (k + 1) s.size)] 31)).drew)
        refine (rkey_any _ _ _ (ext_size s 0 k HS.out) (ext_size s (k + 1) s.size HS.out)).mono ?_
        rintro o w2 ⟨rfl, hq2⟩
        have bl2 := bl1.on hq2
        have e0 : w2.cell? ⟨wr.heap.size, 0, none⟩ = some (.string (s.extract 0 k)) := kept hq2 (by simp [go_sem])
        have e1 : w2.cell? ⟨wr.heap.size, 1, none⟩ = some (.string (s.extract (k + 1) s.size)) := kept hq2 (by simp [go_sem])
        have HB2 := hid bl2
        clear bl1 bl2 hq2
        cases hkb : keyB (s.extract 0 k) (s.extract (k + 1) s.size) with
        | true =>
          obtain ⟨rfl, rfl, rfl⟩ := HY.out k hlt HC.out hkb
          obtain ⟨b0, d0, d1, f0, f1⟩ := HB2.out
          go_wp2_with fail
          exact bodyPost_ret (v := .tuple #[.agg #[.string (s.extract 0 k), .string (s.extract (k + 1) s.size)], .int .i64 0]) (by simp [results, Try.results36, go_sem, d0, d1]) rfl
            ⟨rfl, (b0.setCell (Nat.le_refl _) _).setCell (Nat.le_refl _) _⟩
        | false =>
          have HK := hid hkb
          go_wp2_with fail
          refine ⟨⟨k + 1, by omega, by go_num, HB2.out, fun j h1 hj => ?_⟩, by simp [intOf]; omega⟩
          by_cases hjk : j = k
          · subst hjk; exact fun _ => HK.out
          · exact HL.out j (by omega) hj
      · have hb : ((s[k].toNat : Int) == 47) = false := by
          rw [beq_eq_false_iff_ne]
          intro h
          apply hc
          apply UInt8.toNat_inj.1
          have : (47 : UInt8).toNat = 47 := rfl
          omega
        have HC := hid hc
        clear hc
        go_wp2
        refine ⟨⟨k + 1, by omega, by go_num, HB.out, fun j h1 hj => ?_⟩, by simp [intOf]; omega⟩
        by_cases hjk : j = k
        · subst hjk; exact fun e => absurd e HC.out
        · exact HL.out j (by omega) hj
    · obtain ⟨rfl, rfl, rfl⟩ := HN.out fun j hj => HL.out j (by omega) hj
      obtain ⟨b0, d0, d1, f0, f1⟩ := HB.out
      go_wp2
      exact bodyPost_ret (v := .tuple #[.agg #[.string ⟨#[]⟩, .string ⟨#[]⟩], .int .i64 2]) (by simp [results, Try.results36, go_sem, d0, d1]) rfl
        ⟨rfl, (b0.setCell (Nat.le_refl _) _).setCell (Nat.le_refl _) _⟩

end Go.Proofs.Ytinmagodckkedaa

/-
  The contracts of strings.CutPrefix, and of named, tempOf and Text of package refs; Named and Temp of the reference.
-/
namespace Go.Proofs.Ytinmagodckkedaa
open Go.RowKit

set_option maxHeartbeats 1000000 in
theorem hasp_yes (s p : ByteArray) (w : World) (hp : p.size ≤ s.size) (he : s.extract 0 p.size = p) :
    Calls Try.prog 78 #[.string s, .string p] w fun e w' => e = .returned (.bool true) ∧ ∃ n, w' = w.drewN n := by
  have c1 : (p.size : Int) ≤ (s.size : Int) := by omega
  have c2 : (0 : Int) ≤ (p.size : Int) := by omega
  have he2 : ((s.extract 0 p.size).toList == p.toList) = true := by rw [he]; simp
  clear he
  go_enter Try.func78, Try.ntmps78
  go_wp2_with fail
  first
  | (go_ret; exact ⟨rfl, 0, rfl⟩)
  | (go_quiet (fail); go_wp2_with fail; go_ret; exact ⟨rfl, _, rfl⟩)

set_option maxHeartbeats 1000000 in
theorem hasp_no (s p : ByteArray) (w : World) (hps : p.size ≤ maxLen) (h : ¬ (p.size ≤ s.size ∧ s.extract 0 p.size = p)) :
    Calls Try.prog 78 #[.string s, .string p] w fun e w' => e = .returned (.bool false) ∧ ∃ n, w' = w.drewN n := by
  unfold maxLen at hps
  by_cases hp : p.size ≤ s.size
  · have c1 : (p.size : Int) ≤ (s.size : Int) := by omega
    have c2 : (0 : Int) ≤ (p.size : Int) := by omega
    have he2 : ((s.extract 0 p.size).toList == p.toList) = false := by
      rw [Lib.toList_data, Lib.toList_data, beq_eq_false_iff_ne]
      intro e
      exact h ⟨hp, ba_ext e⟩
    clear h
    go_enter Try.func78, Try.ntmps78
    go_wp2_with fail
    first
    | (go_ret; exact ⟨rfl, 0, rfl⟩)
    | (go_quiet (fail); go_wp2_with fail; go_ret; exact ⟨rfl, _, rfl⟩)
  · have c1 : ¬ (p.size : Int) ≤ (s.size : Int) := by omega
    clear h
    go_enter Try.func78, Try.ntmps78
    go_wp2_with fail
    first
    | (go_ret; exact ⟨rfl, 0, rfl⟩)
    | (go_quiet (fail); go_wp2_with fail; go_ret; exact ⟨rfl, _, rfl⟩)

set_option maxHeartbeats 1000000 in
theorem cutp_yes (s p : ByteArray) (w : World) (hp : p.size ≤ s.size) (he : s.extract 0 p.size = p) :
    Calls Try.prog 42 #[.string s, .string p] w fun e w' => e = .returned (.tuple #[.string (s.extract p.size s.size), .bool true]) ∧ ∃ n, w' = w.drewN n := by
  have H := hid (fun W => hasp_yes s p W hp he)
  have c1 : (p.size : Int) ≤ (s.size : Int) := by omega
  have c2 : (0 : Int) ≤ (p.size : Int) := by omega
  clear he
  have hc : ∀ W, Calls Try.prog 59 #[.string s, .string p] W fun e w' => e = .returned (.tuple #[.string (s.extract p.size s.size), .bool true]) ∧ ∃ n, w' = W.drewN n := fun W => by
    go_enter Try.func59, Try.ntmps59
    go_wp2_with (go_at_call 78; refine (H.out _).mono ?_; rintro e w1 ⟨rfl, n1, rfl⟩)
    go_ret2
    exact ⟨rfl, n1, rfl⟩
  have HC := hid hc
  clear hc
  go_enter Try.func42, Try.ntmps42
  go_wp2_with (go_at_call 59; refine (HC.out _).mono ?_; rintro e w1 ⟨rfl, n1, rfl⟩)
  go_ret2
  exact ⟨rfl, n1, rfl⟩

set_option maxHeartbeats 1000000 in
theorem cutp_no (s p : ByteArray) (w : World) (hps : p.size ≤ maxLen) (h : ¬ (p.size ≤ s.size ∧ s.extract 0 p.size = p)) :
    Calls Try.prog 42 #[.string s, .string p] w fun e w' => e = .returned (.tuple #[.string s, .bool false]) ∧ ∃ n, w' = w.drewN n := by
  have H := hid (fun W => hasp_no s p W hps h)
  clear h
  have hc : ∀ W, Calls Try.prog 59 #[.string s, .string p] W fun e w' => e = .returned (.tuple #[.string s, .bool false]) ∧ ∃ n, w' = W.drewN n := fun W => by
    go_enter Try.func59, Try.ntmps59
    go_wp2_with (go_at_call 78; refine (H.out _).mono ?_; rintro e w1 ⟨rfl, n1, rfl⟩)
    go_ret2
    exact ⟨rfl, n1, rfl⟩
  have HC := hid hc
  clear hc
  go_enter Try.func42, Try.ntmps42
  go_wp2_with (go_at_call 59; refine (HC.out _).mono ?_; rintro e w1 ⟨rfl, n1, rfl⟩)
  go_ret2
  exact ⟨rfl, n1, rfl⟩

/-! Parse, by what it means. -/

def parseT (s : ByteArray) : Option Ky := (parseS s.data.toList).map fun k => (bytesL k.1, bytesL k.2)

theorem cutS_none {l : List UInt8} (h : (47 : UInt8) ∉ l) : cutS l = none := by
  induction l with
  | nil => rfl
  | cons c r ih =>
    simp only [List.mem_cons, not_or] at h
    unfold cutS
    rw [if_neg (fun e => h.1 e.symm), ih h.2]
    rfl

theorem cut_at {s : ByteArray} {i : Nat} (hi : i < s.size) (hc : s.data.toList[i]? = some 47) (hn : (47 : UInt8) ∉ s.data.toList.take i) : cutS s.data.toList = some ((s.extract 0 i).data.toList, (s.extract (i + 1) s.size).data.toList) := by
  rw [ext_head, ext_tail]
  have := ix_split s.data.toList 47 i (by simpa using hi) hc
  conv => lhs; rw [this]
  exact cutS_of hn

theorem parseT_at {s : ByteArray} {i : Nat} (hi : i < s.size) (hc : s.data.toList[i]? = some 47) (hn : (47 : UInt8) ∉ s.data.toList.take i) :
    parseT s = if keyB (s.extract 0 i) (s.extract (i + 1) s.size) = true then some (s.extract 0 i, s.extract (i + 1) s.size) else none := by
  unfold parseT parseS
  rw [cut_at hi hc hn]
  show Option.map _ (if keyB (s.extract 0 i) (s.extract (i + 1) s.size) = true then _ else none) = _
  by_cases h : keyB (s.extract 0 i) (s.extract (i + 1) s.size) = true
  · rw [if_pos h, if_pos h]; rfl
  · rw [if_neg h, if_neg h]; rfl

/-- What Parse answers: the key, or none. -/
def PAns (s : ByteArray) (k : Ky) (c : Int) : Prop := (parseT s = some k ∧ c = 0) ∨ (parseT s = none ∧ k = (⟨#[]⟩, ⟨#[]⟩) ∧ c = 2)

theorem parse_is (s : ByteArray) (hs : s.size ≤ maxLen) :
    ∃ (k : Ky) (c : Int), PAns s k c ∧ ∀ w, Calls Try.prog 50 #[.string s] w fun e w' => e = .returned (.tuple #[.agg #[.string k.1, .string k.2], .int .i64 c]) ∧ Below w.heap.size w w' := by
  rcases ix_cases s.data.toList 47 with ⟨h1, h2⟩ | ⟨i, h1, h2, h3, h4⟩
  · refine ⟨(⟨#[]⟩, ⟨#[]⟩), 2, Or.inr ⟨?_, rfl, rfl⟩, fun w => parse_bare s w hs h1⟩
    unfold parseT parseS
    rw [cutS_none h2]
    rfl
  · have hi : i < s.size := by simpa using h2
    have hp := parseT_at hi h3 h4
    cases hk : keyB (s.extract 0 i) (s.extract (i + 1) s.size) with
    | false =>
      rw [hk, if_neg (by simp)] at hp
      exact ⟨_, _, Or.inr ⟨hp, rfl, rfl⟩, fun w => parse_no s w hs i h1 hi hk⟩
    | true =>
      rw [hk, if_pos rfl] at hp
      exact ⟨_, _, Or.inl ⟨hp, rfl⟩, fun w => parse_yes s w hs i h1 hi hk⟩

theorem parse_pos {s : ByteArray} {i : Nat} (hi : i < s.size) (hc : s[i] = 47) (hk : keyB (s.extract 0 i) (s.extract (i + 1) s.size) = true) : parseT s = some (s.extract 0 i, s.extract (i + 1) s.size) := by
  have hn : (47 : UInt8) ∉ s.data.toList.take i := by
    rw [← ext_head]
    exact type_slash (keyB_parts hk).1
  have hc' : s.data.toList[i]? = some 47 := by
    rw [List.getElem?_eq_getElem (by simpa using hi)]
    exact congrArg some hc
  rw [parseT_at hi hc' hn, if_pos hk]

theorem parse_neg {s : ByteArray} {k : Ky} (h : parseT s = some k) : ∃ i, ∃ hi : i < s.size, s[i] = 47 ∧ keyB (s.extract 0 i) (s.extract (i + 1) s.size) = true := by
  unfold parseT at h
  cases hp : parseS s.data.toList with
  | none => rw [hp] at h; cases h
  | some x =>
    obtain ⟨h1, h2⟩ := parseS_some hp
    have hl : s.data.toList.length = x.1.length + 1 + x.2.length := by rw [h1]; simp; omega
    have hi : x.1.length < s.size := by
      have : s.size = s.data.toList.length := by simp
      omega
    refine ⟨x.1.length, hi, ?_, ?_⟩
    · have : s.data.toList[x.1.length]? = some 47 := by rw [h1]; simp
      rw [List.getElem?_eq_getElem (by simpa using hi)] at this
      exact Option.some.inj this
    · have e1 : (s.extract 0 x.1.length).data.toList = x.1 := by rw [ext_head, h1]; simp
      have e2 : (s.extract (x.1.length + 1) s.size).data.toList = x.2 := by rw [ext_tail, h1]; simp
      unfold keyB
      rw [e1, e2]
      exact h2

theorem rparse_is (s : ByteArray) (hs : s.size ≤ maxLen) {k : Ky} {c : Int} (h : PAns s k c) (w : World) :
    Calls Try.prog 36 #[.string s] w fun e w' => e = .returned (.tuple #[.agg #[.string k.1, .string k.2], .int .i64 c]) ∧ Below w.heap.size w w' := by
  refine rparse_any s w hs k.1 k.2 c (fun i hi hc hk => ?_) (fun hall => ?_)
  · have := parse_pos hi hc hk
    rcases h with ⟨h, rfl⟩ | ⟨h, _⟩
    · rw [this] at h
      have := Option.some.inj h
      rw [← this]
      exact ⟨rfl, rfl, rfl⟩
    · rw [this] at h; cases h
  · rcases h with ⟨h, rfl⟩ | ⟨h, rfl, rfl⟩
    · obtain ⟨i, hi, hc, hk⟩ := parse_neg h
      rw [hall i hi hc] at hk; cases hk
    · exact ⟨rfl, rfl, rfl⟩

theorem pans_is (s : ByteArray) : ∃ (k : Ky) (c : Int), PAns s k c := by
  cases h : parseT s with
  | none => exact ⟨_, _, Or.inr ⟨h, rfl, rfl⟩⟩
  | some k => exact ⟨k, 0, Or.inl ⟨h, rfl⟩⟩

/-! References. -/

theorem star_cases (t : ByteArray) : (1 ≤ t.size ∧ t.extract 0 1 = ⟨#[42]⟩ ∧ namedT t = parseT (t.extract 1 t.size)) ∨ (¬ (1 ≤ t.size ∧ t.extract 0 1 = ⟨#[42]⟩) ∧ namedT t = none) := by
  have e0 := ext_head t 1
  have e1 := ext_tail t 1
  have hsz : t.size = t.data.toList.length := by simp
  cases hl : t.data.toList with
  | nil =>
    right
    refine ⟨fun h => ?_, ?_⟩
    · have h0 := h.1; rw [hsz, hl] at h0; simp at h0
    · unfold namedT; rw [hl]; rfl
  | cons c r =>
    by_cases hc : c = 42
    · subst hc
      left
      refine ⟨by rw [hsz, hl]; simp, ba_ext (by rw [e0, hl]; rfl), ?_⟩
      unfold namedT parseT
      rw [e1, hl]
      rfl
    · right
      refine ⟨fun h => ?_, ?_⟩
      · have := congrArg (fun b : ByteArray => b.data.toList) h.2
        simp only [e0, hl] at this
        exact hc (by simpa using this)
      · unfold namedT
        rw [hl]
        have : namedS (c :: r) = none := by
          unfold namedS
          split
          · next h => simp only [List.cons.injEq] at h; exact absurd h.1 hc
          · rfl
        rw [this]; rfl

/-- What a text tells: the key that it names, and whether it names one. -/
def NAns (t : ByteArray) (k : Ky) (b : Bool) : Prop := (namedT t = some k ∧ b = true) ∨ (namedT t = none ∧ b = false)

theorem NAns.eq {t : ByteArray} {k : Ky} {b : Bool} (h : NAns t k b) : b = (namedT t).isSome := by
  rcases h with ⟨h, rfl⟩ | ⟨h, rfl⟩ <;> rw [h] <;> rfl

/-- A result's cells, as they were made, behind a call and a block more. -/
theorem box_two {w w2 : World} {n1 : Nat} {T : TypeId} {x y : Value} (hb : Below ((w.alloc (.cells #[x, y] T)).drewN n1).heap.size ((w.alloc (.cells #[x, y] T)).drewN n1) w2) :
    (∀ o, (w2.alloc o).cell? ⟨w.heap.size, 0, none⟩ = some x) ∧ (∀ o, (w2.alloc o).cell? ⟨w.heap.size, 1, none⟩ = some y) ∧ (∀ o, (w2.alloc o).frozen? ⟨w.heap.size, 0, none⟩ = false) ∧ (∀ o, (w2.alloc o).frozen? ⟨w.heap.size, 1, none⟩ = false) := by
  have h0 : ((w.alloc (.cells #[x, y] T)).drewN n1).heap[w.heap.size]? = some (.cells #[x, y] T (0, 0)) := heap_alloc_new w _
  have hlt : w.heap.size < ((w.alloc (.cells #[x, y] T)).drewN n1).heap.size := (Array.getElem?_eq_some_iff.1 h0).1
  have h1 := (hb.block _ hlt).trans h0
  have h2 : ∀ o, (w2.alloc o).heap[w.heap.size]? = some (.cells #[x, y] T (0, 0)) := fun o => (Below.heap_alloc _ _ _ (Nat.lt_of_lt_of_le hlt hb.size)).trans h1
  refine ⟨fun o => ?_, fun o => ?_, fun o => ?_, fun o => ?_⟩
  · rw [Lib.cell_of_heap (h2 o)]; rfl
  · rw [Lib.cell_of_heap (h2 o)]; rfl
  · exact Lib.frozen_of_heap (h2 o) _
  · exact Lib.frozen_of_heap (h2 o) _

set_option maxHeartbeats 1000000 in
theorem named_is (t : ByteArray) (hs : t.size ≤ maxLen) :
    ∃ (k : Ky) (b : Bool), NAns t k b ∧ ∀ w, Calls Try.prog 37 #[.string t] w fun e w' => e = .returned (.tuple #[.agg #[.string k.1, .string k.2], .bool b]) ∧ Below w.heap.size w w' := by
  rcases star_cases t with ⟨h1, h2, h3⟩ | ⟨h1, h3⟩
  · obtain ⟨k, c, hp, hcall⟩ := parse_is (t.extract 1 t.size) (ext_size t 1 t.size hs)
    have hcut := hid (fun w => cutp_yes t ⟨#[42]⟩ w h1 h2)
    have HC := hid hcall
    have hb : ∃ b : Bool, NAns t k b ∧ (c == 0) = b := by
      rcases hp with ⟨hp, rfl⟩ | ⟨hp, _, rfl⟩
      · exact ⟨true, Or.inl ⟨h3.trans hp, rfl⟩, rfl⟩
      · exact ⟨false, Or.inr ⟨h3.trans hp, rfl⟩, rfl⟩
    obtain ⟨b, hn, he⟩ := hb
    refine ⟨k, b, hn, fun w => ?_⟩
    clear hcall hp hn h3 h2
    obtain ⟨k1, k2⟩ := k
    simp only at HC ⊢
    go_enter Try.func37, Try.ntmps37
    go_wp2_with (first
      | (go_at_call 42; refine (hcut.out _).mono ?_; rintro e w1 ⟨rfl, n1, rfl⟩)
      | (go_at_call 50; refine (HC.out _).mono ?_; rintro e w2 ⟨rfl, hb2⟩; obtain ⟨k0, k1', q0, q1⟩ := box_two hb2))
    exact bodyPost_ret (v := .tuple #[.agg #[.string k1, .string k2], .bool b]) (by simp [results, Try.results37, go_sem, k0, k1']) rfl
      ⟨rfl, ((((bel_drewN ((Below.refl _ _).alloc (Nat.le_refl _) _) _).trans (hb2.mono (by simp))).alloc (by have := hb2.size; simp at this; omega) _).setCell (by simp) _).setCell (by simp) _⟩
  · have hcut := hid (fun w => cutp_no t ⟨#[42]⟩ w (by decide) h1)
    refine ⟨(⟨#[]⟩, ⟨#[]⟩), false, Or.inr ⟨h3, rfl⟩, fun w => ?_⟩
    clear h1 h3
    go_enter Try.func37, Try.ntmps37
    go_wp2_with (first
      | (go_at_call 42; refine (hcut.out _).mono ?_; rintro e w1 ⟨rfl, n1, rfl⟩))
    exact bodyPost_ret (v := .tuple #[.agg #[.string ⟨#[]⟩, .string ⟨#[]⟩], .bool false]) (by simp [results, Try.results37, go_sem]) rfl
      ⟨rfl, (((bel_drewN ((Below.refl _ _).alloc (Nat.le_refl _) _) _)).setCell (by simp) _).setCell (by simp) _⟩

end Go.Proofs.Ytinmagodckkedaa
