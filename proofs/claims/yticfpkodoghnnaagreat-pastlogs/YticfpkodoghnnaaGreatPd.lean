/-
  Texts of this claim, one behind the other: Kr0 Zcmp Zeq Zcomp2 Zord Zsortz Zkrow Zsame Zcompa Zrise Zsorta Nso Dky Dfd Dlv Dfs Tok Rtok Rp3 Pc5 Psh Psv.
-/
import Derived.Test.YticfpkodoghnnaaGreatPb
import Derived.Test.YticfpkodoghnnaaGreatPc
import Derived.Test.YticfpkodoghnnaaGreatPa
import Derived.Deep.RegionHeld3
import Derived.Deep.DrawnRows
import Derived.LoopN
import Derived.Laws.StructEq
import Derived.Deep.QuietTactic
import Derived.BigQuiet
import Derived.Lib.SliceRun
import Derived.Lib.Bytealg
import Derived.Shelf.SlSortCmp.WholeK
import Derived.Shelf.SlicesE.Clone
import Derived.Laws.OwnMore
import Derived.Lib.SlicesCompact
import Derived.Deep.LoopGhost
import Derived.Shelf.Abstract
import Derived.Shelf.RegionOpen
import Derived.OwnWalkIn
import Derived.TacticsInMore
import Derived.LoopNIn
import Derived.LoopIn
import Derived.Deep.AppendLies
import Derived.Deep.DeepAppendWide
/-
  Rows of texts and keys; rows cut short, sorted, written behind their end, whatever their kind.
-/
namespace Go.Proofs.YticfpkodoghnnaaGreat
open Go.RowKit Go.Sort Go.Lib
def encKy (x : Ky) : List Value := [.string x.1, .string x.2]
def KK : Kind Ky := ⟨31, 2, encKy, fun _ => rfl, by decide, fun x u hu => by simp [encKy] at hu; rcases hu with rfl | rfl <;> rfl⟩

theorem kt_cells (d : List ByteArray) : KT.cells d = d.map Value.string := by
  induction d with
  | nil => rfl
  | cons x d ih =>
    have : KT.cells (x :: d) = Value.string x :: KT.cells d := rfl
    rw [this, ih]; rfl

theorem kt_own {n0 : Nat} {w : World} {v : Value} {d : List ByteArray} : KT.Own n0 w v d ↔ OwnT n0 w v d := by
  unfold Kind.Own OwnT
  rw [kt_cells]
  rfl

theorem kt_at {w : World} {b off : Nat} {d : List ByteArray} : KT.At w b off d ↔ ∀ i, (h : i < d.length) → w.cell? ⟨b, off + i, none⟩ = some (.string d[i]) := by
  constructor
  · intro h i hi
    have := h i hi 0 (.string d[i]) rfl
    have e : off + i * KT.k + 0 = off + i := by show off + i * 1 + 0 = _; omega
    rwa [e] at this
  · intro h i hi j u hu
    have hj : j = 0 := by
      have := (List.getElem?_eq_some_iff.1 hu).1
      have hl : (KT.enc d[i]).length = 1 := rfl
      omega
    subst hj
    have e : off + i * KT.k + 0 = off + i := by show off + i * 1 + 0 = _; omega
    rw [e, h i hi]
    exact hu

theorem kt_txt {w : World} {p : Option Addr} {d : List ByteArray} : TxtAt w p d ↔ (d = [] ∨ ∃ b off, p = some ⟨b, off, none⟩ ∧ KT.At w b off d) := by
  unfold TxtAt
  constructor
  · rintro (h | ⟨b, off, hp, h⟩)
    · exact Or.inl h
    · exact Or.inr ⟨b, off, hp, kt_at.2 h⟩
  · rintro (h | ⟨b, off, hp, h⟩)
    · exact Or.inl h
    · exact Or.inr ⟨b, off, hp, kt_at.1 h⟩

theorem kk_at {w : World} {b off : Nat} {d : List Ky} (h : KK.At w b off d) (i : Nat) (hi : i < d.length) : w.cell? ⟨b, off + i * 2, none⟩ = some (.string d[i].1) ∧ w.cell? ⟨b, off + i * 2 + 1, none⟩ = some (.string d[i].2) :=
  ⟨h i hi 0 _ rfl, h i hi 1 _ rfl⟩

theorem Kind.take_cells {α : Type} (K : Kind α) : ∀ (d : List α) (k : Nat), K.cells (d.take k) = (K.cells d).take (k * K.k)
  | [], k => by simp [Kind.cells]
  | x :: d, 0 => by simp [Kind.cells]
  | x :: d, k + 1 => by
    have e1 : K.cells (x :: d) = K.enc x ++ K.cells d := rfl
    have e2 : K.cells ((x :: d).take (k + 1)) = K.enc x ++ K.cells (d.take k) := rfl
    have h1 : (K.enc x).take (k * K.k + K.k) = K.enc x := List.take_of_length_le (by rw [K.len]; omega)
    rw [e1, e2, K.take_cells d k, Nat.add_mul, Nat.one_mul, List.take_append, h1, K.len, Nat.add_sub_cancel]

/-- The row cut short. -/
theorem Kind.own_cut {α : Type} {K : Kind α} {n0 g n cap : Nat} {w : World} {d : List α} (h : K.Own n0 w (.slice (some ⟨g, 0, none⟩) n cap) d) (k : Nat) (hk : k ≤ d.length) :
    K.Own n0 w (.slice (some ⟨g, 0, none⟩) k cap) (d.take k) := by
  have hl : (d.take k).length = k := by rw [List.length_take]; omega
  rcases h.2 with ⟨hv, _⟩ | ⟨g', cap', cur, hv, h1, h2, h3, h4, h5, h6⟩
  · cases hv
  · injection hv with e1 e2 e3
    injection e1 with e1
    injection e1 with e1 _ _
    subst e1 e3
    refine ⟨by rw [K.cells_len], Or.inr ⟨g, cap, cur, by rw [hl], h1, h2, by rw [hl]; omega, h4, h5, ?_⟩⟩
    rw [hl, K.take_cells, ← h6, List.take_take]
    congr 1
    have := Nat.mul_le_mul_right K.k hk
    omega

/-- Cells behind the row's end written over. -/
theorem Kind.own_past {α : Type} {K : Kind α} {n0 g n cap : Nat} {d : List α} (vs : List Value) : ∀ (w : World) (o : Nat), K.Own n0 w (.slice (some ⟨g, 0, none⟩) n cap) d → d.length = n → n * K.k ≤ o → K.Own n0 (w.setCells g o vs) (.slice (some ⟨g, 0, none⟩) n cap) d := by
  induction vs with
  | nil => intro w o h _ _; exact h
  | cons v vs ih =>
    intro w o h hn ho
    rw [World.setCells]
    refine ih _ _ ?_ hn (by omega)
    subst hn
    have h1 := (World.ownsRow.stored h o v).1
    rw [List.set_eq_of_length_le (by rw [K.cells_len]; exact ho)] at h1
    exact h1

theorem Kind.flat {α : Type} [Inhabited α] (K : Kind α) (d : List α) (t : Nat) (h : t < d.length * K.k) : (K.cells d)[t]? = some (K.enc d[t / K.k]!)[t % K.k]! := by
  have hq : t / K.k < d.length := (Nat.div_lt_iff_lt_mul K.pos).2 h
  have hm : t % K.k < K.k := Nat.mod_lt _ K.pos
  have e : t / K.k * K.k + t % K.k = t := by rw [Nat.mul_comm]; exact Nat.div_add_mod t K.k
  have h1 := K.cells_get d (t / K.k) hq (t % K.k) hm
  rw [e] at h1
  rw [h1, getElem!_pos d (t / K.k) hq, List.getElem?_eq_getElem (by rw [K.len]; exact hm), getElem!_pos _ _ (by rw [K.len]; exact hm)]

theorem Kind.own_holds {α : Type} [Inhabited α] {K : Kind α} {n0 g n cap : Nat} {w : World} {d : List α} (h : K.Own n0 w (.slice (some ⟨g, 0, none⟩) n cap) d) : HoldsK K.enc K.k w g 0 d.toArray := by
  rcases h.2 with ⟨hv, _⟩ | ⟨g', cap', cur, hv, h1, h2, h3, h4, h5, h6⟩
  · cases hv
  · injection hv with e1 e2 e3
    injection e1 with e1
    injection e1 with e1 _ _
    subst e1
    intro j hj
    rw [size_flatK] at hj
    have hj' : j < d.length * K.k := by simpa using hj
    have hg := K.flat d j hj'
    rw [← h6, List.getElem?_take_of_lt hj'] at hg
    rw [get_flatK _ _ _ _ hj]
    constructor
    · simp only [World.cell?, h2, Nat.zero_add]
      have hq : j / K.k < d.length := (Nat.div_lt_iff_lt_mul K.pos).2 hj'
      have he : d[j / K.k]! = d.toArray[j / K.k]! := by
        rw [getElem!_pos d (j / K.k) hq, getElem!_pos d.toArray (j / K.k) (by simpa using hq)]; simp
      rw [← Array.getElem?_toList, hg, he]
      rfl
    · simp [World.frozen?, h2]

theorem below_sortK {α : Type} [Inhabited α] (enc : α → List Value) (k : Nat) {B : Nat} {w0 w : World} (h : Below B w0 w) (hB : B ≤ w.heap.size) (blk off n : Nat) (d : Array α) (os : Array Obj) (hb : B ≤ blk) : Below B w0 (sortWorldK enc k w blk off n d os) := by
  refine h.trans ⟨rfl, rfl, rfl, ?_, ?_⟩
  · simp [sortWorldK, putRowK]
  · intro k' hk
    have hks : k' < w.heap.size := by omega
    simp only [sortWorldK, Sort.grow, putRowK, putRow, mapBlock, Sort.ahead]
    rw [Array.getElem?_append_left (by simpa using hks), Array.getElem?_modify, if_neg (by omega)]

/-- A row whose elements have been put in another order. -/
theorem Kind.own_sorted {α : Type} [Inhabited α] {K : Kind α} {n0 g n cap : Nat} {w : World} {d : List α} (h : K.Own n0 w (.slice (some ⟨g, 0, none⟩) n cap) d) (e : Array α) (he : e.size = d.length) (m : Nat) (os : Array Obj) :
    K.Own n0 (sortWorldK K.enc K.k w g 0 m e os) (.slice (some ⟨g, 0, none⟩) n cap) e.toList := by
  have hH := K.own_holds h
  rcases h.2 with ⟨hv, _⟩ | ⟨g', cap', cur, hv, h1, h2, h3, h4, h5, h6⟩
  · cases hv
  · injection hv with e1 e2 e3
    injection e1 with e1
    injection e1 with e1 _ _
    subst e1 e2 e3
    have hgl := (Array.getElem?_eq_some_iff.1 h2).1
    have hl : e.toList.length = d.length := by simpa using he
    have hheap : (sortWorldK K.enc K.k w g 0 m e os).heap[g]? = some (.cells (putCells id 0 (flatK K.enc K.k e) cur) K.T (0, 0)) := by
      simp only [sortWorldK, Sort.grow, putRowK, putRow, mapBlock, Sort.ahead]
      rw [Array.getElem?_append_left (by simpa using hgl), Array.getElem?_modify, if_pos rfl, h2]
      rfl
    have hH2 : HoldsK K.enc K.k (sortWorldK K.enc K.k w g 0 m e os) g 0 e := by
      exact holdsK_grow K.enc K.k _ os g 0 _ (by simpa [putRowK] using hgl) (holdsK_putRowK K.enc K.k (Sort.ahead w m) g 0 _ _ (holdsK_ahead K.enc K.k w m g 0 _ hH) (by simpa using he))
    have hsz : (putCells id 0 (flatK K.enc K.k e) cur).size = cur.size := by simp [putCells]
    refine ⟨by rw [K.cells_len], Or.inr ⟨g, cap, _, by rw [hl], h1, hheap, by rw [hl]; exact h3, h4, by rw [hsz]; exact h5, ?_⟩⟩
    apply List.ext_getElem?
    intro j
    rw [hl, List.getElem?_take]
    by_cases hj : j < d.length * K.k
    · have hje : j < e.size * K.k := by rw [he]; exact hj
      rw [if_pos hj, K.flat e.toList j (by rw [hl]; exact hj)]
      have := (hH2 j (by rw [size_flatK]; exact hje)).1
      rw [get_flatK _ _ _ _ (by first | exact hje | (rw [size_flatK]; exact hje))] at this
      simp only [World.cell?, hheap, Nat.zero_add] at this
      simp only [Option.isSome_none, Bool.false_eq_true, if_false] at this
      rw [Array.getElem?_toList, this]
      have hq : j / K.k < e.size := (Nat.div_lt_iff_lt_mul K.pos).2 hje
      have he2 : e.toList[j / K.k]! = e[j / K.k]! := by
        rw [getElem!_pos e (j / K.k) hq, getElem!_pos e.toList (j / K.k) (by simpa using hq)]; simp
      rw [he2]
      rfl
    · rw [if_neg hj, List.getElem?_eq_none]
      rw [K.cells_len, hl]
      omega

theorem Kind.own_ge {α : Type} {K : Kind α} {n0 g n cap : Nat} {w : World} {d : List α} (h : K.Own n0 w (.slice (some ⟨g, 0, none⟩) n cap) d) : n0 ≤ g ∧ g < w.heap.size ∧ d.length ≤ cap ∧ cap ≤ maxLen := by
  rcases h.2 with ⟨hv, _⟩ | ⟨g', cap', cur, hv, h1, h2, h3, h4, _⟩
  · cases hv
  · injection hv with e1 e2 e3
    injection e1 with e1
    injection e1 with e1 _ _
    subst e1 e3
    exact ⟨h1, (Array.getElem?_eq_some_iff.1 h2).1, h3, h4⟩

theorem Kind.own_drew {α : Type} {K : Kind α} {n0 : Nat} {w : World} {v : Value} {d : List α} (h : K.Own n0 w v d) (q : Nat) : K.Own n0 (w.drewN q) v d := h

theorem Kind.own_some {α : Type} [Inhabited α] {K : Kind α} {n0 g n cap : Nat} {w : World} {d : List α} (h : K.Own n0 w (.slice (some ⟨g, 0, none⟩) n cap) d) (t : Nat) (ht : t < d.length * K.k) :
    (w.cell? ⟨g, t, none⟩).isSome = true ∧ w.frozen? ⟨g, t, none⟩ = false := by
  have := K.own_holds h t (by rw [size_flatK]; simpa using ht)
  rw [Nat.zero_add] at this
  exact ⟨by rw [this.1]; rfl, this.2⟩

/-- An element's cells in a row of its own. -/
theorem Kind.own_at {α : Type} {K : Kind α} {n0 g n cap : Nat} {w : World} {d : List α} (h : K.Own n0 w (.slice (some ⟨g, 0, none⟩) n cap) d) : K.At w g 0 d := by
  by_cases h0 : 0 < d.length
  · obtain ⟨g', e, _, _, hat, _⟩ := Kind.own_form h h0
    cases e
    exact hat
  · intro i hi; omega

theorem Kind.own_free {α : Type} {K : Kind α} {n0 g n cap : Nat} {w : World} {d : List α} (h : K.Own n0 w (.slice (some ⟨g, 0, none⟩) n cap) d) (j : Nat) : w.frozen? ⟨g, j, none⟩ = false := by
  rcases h.2 with ⟨hv, _⟩ | ⟨g', cap', cur, hv, h1, h2, _⟩
  · cases hv
  · injection hv with e1 e2 e3
    injection e1 with e1
    injection e1 with e1 _ _
    subst e1
    exact Lib.frozen_of_heap h2 _

theorem Kind.newsN {α : Type} (K : Kind α) (W : World) (x : α) (N : Nat) (hN : N = W.heap.size) : ∀ j u, (K.cells [x])[j]? = some u → (W.alloc (.cells (K.enc x).toArray K.T)).cell? ((⟨N, 0, none⟩ : Addr).add j) = some u := by
  subst hN
  exact K.news W x

end Go.Proofs.YticfpkodoghnnaaGreat

/-
  The contracts of cmp.Or and of Compare of package name.
-/
namespace Go.Proofs.YticfpkodoghnnaaGreat.Z
open Go.RowKit

def orI (x y : Int) : Int := if x = 0 then y else x

set_option maxHeartbeats 400000 in
theorem zor_any (x y : Int) (b : Nat) (w : World) (h0 : w.cell? ⟨b, 0, none⟩ = some (.int .i64 x)) (h1 : w.cell? ⟨b, 1, none⟩ = some (.int .i64 y)) :
    Calls Tryz.prog 97 #[.slice (some ⟨b, 0, none⟩) 2 2] w fun e w' => e = .returned (.int .i64 (orI x y)) ∧ w' = w := by
  by_cases hx : x = 0
  · have HO : Hid (orI x y = y) := if_pos hx
    subst hx
    by_cases hy : y = 0
    · subst hy
      go_enter Tryz.func97, Tryz.ntmps97
      go_wp2
      refine wp_loop_rounds 3 ?_
      rw [rounds_succ]; go_wp2
      rw [rounds_succ]; go_wp2
      rw [rounds_succ]; go_wp2
      go_ret
      exact ⟨ret_int HO.out.symm, rfl⟩
    · have hyb : (y != 0) = true := by simp [hy]
      clear hy
      go_enter Tryz.func97, Tryz.ntmps97
      go_wp2
      refine wp_loop_rounds 3 ?_
      rw [rounds_succ]; go_wp2
      rw [rounds_succ]; go_wp2
      go_ret
      exact ⟨ret_int HO.out.symm, rfl⟩
  · have HO : Hid (orI x y = x) := if_neg hx
    have hxb : (x != 0) = true := by simp [hx]
    clear hx
    go_enter Tryz.func97, Tryz.ntmps97
    go_wp2
    refine wp_loop_rounds 3 ?_
    rw [rounds_succ]; go_wp2
    go_ret
    exact ⟨ret_int HO.out.symm, rfl⟩

attribute [local go_sem] Go.wp_at_zero Go.wp_at_succ

def cmpI (a b c d : ByteArray) : Int := orI (Lib.compareBytes a.data.toList c.data.toList) (Lib.compareBytes b.data.toList d.data.toList)

set_option maxHeartbeats 800000 in
theorem compare_eq (a b c d : ByteArray) (w : World) :
    Calls Tryz.prog 99 #[.agg #[.string a, .string b], .agg #[.string c, .string d]] w fun e w' => e = .returned (.int .i64 (cmpI a b c d)) ∧
      w' = (((w.alloc (.cells #[.string a, .string b] 31)).alloc (.cells #[.string c, .string d] 31)).alloc (.cells #[.int .i64 (Lib.compareBytes a.data.toList c.data.toList), .int .i64 (Lib.compareBytes b.data.toList d.data.toList)] 3)).drew := by
  have HO : Hid (cmpI a b c d = orI (Lib.compareBytes a.data.toList c.data.toList) (Lib.compareBytes b.data.toList d.data.toList)) := rfl
  go_enter Tryz.func99, Tryz.ntmps99
  go_wp2_with fail
  go_region_held3 (fun w' => w'.cell? ⟨w.heap.size, 0, none⟩ = some (.string a) ∧ w'.cell? ⟨w.heap.size, 1, none⟩ = some (.string b) ∧ w'.cell? ⟨w.heap.size + 1, 0, none⟩ = some (.string c) ∧ w'.cell? ⟨w.heap.size + 1, 1, none⟩ = some (.string d)) (go_keep) (first | (go_at_call 134; refine (Tryz.strings_Compare _ _ _).mono ?_; rintro e w' ⟨rfl, rfl⟩) | (go_at_call 97; refine (zor_any (Lib.compareBytes a.data.toList c.data.toList) (Lib.compareBytes b.data.toList d.data.toList) _ _ ?_ ?_).mono ?_; (simp [go_sem]); (simp [go_sem]); rintro e w' ⟨rfl, rfl⟩))
  all_goals
    go_wp2
    go_ret
    exact ⟨ret_int HO.out.symm, rfl⟩

theorem zcompare_any (a b c d : ByteArray) (w : World) :
    Calls Tryz.prog 99 #[.agg #[.string a, .string b], .agg #[.string c, .string d]] w fun e w' => e = .returned (.int .i64 (cmpI a b c d)) ∧ Below w.heap.size w w' :=
  (compare_eq a b c d w).mono fun e w' ⟨h1, h2⟩ => ⟨h1, by rw [h2]; exact ((((Below.refl _ _).alloc (Nat.le_refl _) _).alloc (by simp) _).alloc (by simp; omega) _).drew⟩

end Go.Proofs.YticfpkodoghnnaaGreat.Z

/-
  What == and != say of two keys.
-/
namespace Go.Proofs.YticfpkodoghnnaaGreat.Z
open Go.RowKit

def eqK (a b c d : ByteArray) : Bool := a.toList == c.toList && b.toList == d.toList

theorem eql_key (a b c d : ByteArray) (w : World) : (binOp .eql 31 (.agg #[.string a, .string b]) (.agg #[.string c, .string d])).run Tryz.prog w = .ok (.bool (eqK a b c d)) w := by
  have u9 := Tryz.underlying9
  have a9 := Tryz.isAgg9
  have z9 := Tryz.sizeOf9
  have hS : Tryz.prog.underlying 31 = some (.struct (Tryz.prog.fieldsOf 31)) := by kernel_rfl
  have hp : Tryz.prog.stoodInHeld 31 = false := by kernel_rfl
  rw [run_eql_struct, show (10000 : Nat) = 9999 + 1 from rfl, run_equalIn_agg w 9999 31 _ _ hS hp]
  simp only [Program.fieldsOf, Tryz.underlying31]
  go_simp
  unfold eqK
  by_cases h1 : a.toList = c.toList <;> by_cases h2 : b.toList = d.toList <;> simp [h1, h2]

theorem neq_key (a b c d : ByteArray) (w : World) : (binOp .neq 31 (.agg #[.string a, .string b]) (.agg #[.string c, .string d])).run Tryz.prog w = .ok (.bool (!eqK a b c d)) w := by
  have u9 := Tryz.underlying9
  have a9 := Tryz.isAgg9
  have z9 := Tryz.sizeOf9
  have hS : Tryz.prog.underlying 31 = some (.struct (Tryz.prog.fieldsOf 31)) := by kernel_rfl
  have hp : Tryz.prog.stoodInHeld 31 = false := by kernel_rfl
  rw [run_neq_struct, show (10000 : Nat) = 9999 + 1 from rfl, run_equalIn_agg w 9999 31 _ _ hS hp]
  simp only [Program.fieldsOf, Tryz.underlying31]
  go_simp
  unfold eqK
  by_cases h1 : a.toList = c.toList <;> by_cases h2 : b.toList = d.toList <;> simp [h1, h2]

end Go.Proofs.YticfpkodoghnnaaGreat.Z

/-
  slices.Compact at two keys that are one.
-/
namespace Go.Proofs.YticfpkodoghnnaaGreat.Z
open Go.RowKit

theorem zero_cells (e : Value) (n : Nat) : (Builtin.zeroCells #[e, e] n).toList = List.replicate (n * 2) e := by
  apply List.ext_getElem
  · simp [Builtin.zeroCells]
  · intro i h1 h2
    simp [Builtin.zeroCells]
    rcases Nat.mod_two_eq_zero_or_one i with h | h <;> simp [h]

theorem run_clear_key (w : World) (ty : TypeId) (b o n c : Nat) (hn : 0 < n)
    (hc : ∀ j, j < n * 2 → (w.cell? ⟨b, o + j, none⟩).isSome = true) (hf : ∀ j, j < n * 2 → w.frozen? ⟨b, o + j, none⟩ = false) :
    (Builtin.clear_ #[118] ty #[.slice (some ⟨b, o, none⟩) n c]).run Tryz.prog w = .ok (.tuple #[]) (w.setCells b o (List.replicate (n * 2) (.string ⟨#[]⟩))) := by
  have hst := run_storeCells_cells (P := Tryz.prog) b o (List.replicate (n * 2) (.string ⟨#[]⟩)) 0 w (by simpa using hc) (by simpa using hf) (by intro v hv'; rw [List.eq_of_mem_replicate hv']; rfl)
  simp only [Nat.add_zero] at hst
  have hz := zero_cells (.string ⟨#[]⟩) n
  obtain ⟨m, rfl⟩ : ∃ m, n = m + 1 := ⟨n - 1, by omega⟩
  simp [Builtin.clear_, run_underlying Tryz.underlying118, Tryz.zeroValue31, Value.cells, hz, hst]

theorem below_setCells {B : Nat} {w w' : World} (b : Nat) (hb : B ≤ b) : ∀ (vs : List Value) (o : Nat), Below B w w' → Below B w (w'.setCells b o vs)
  | [], _, h => h
  | v :: vs, o, h => by
    unfold World.setCells
    exact below_setCells (w' := w'.setCell ⟨b, o, none⟩ v) b hb vs (o + 1) (h.setCell hb v)

theorem eqK_self (a b : ByteArray) : eqK a b a b = true := by simp [eqK]

set_option maxHeartbeats 1000000 in
theorem compact_two (a b : ByteArray) (g c : Nat) (w : World) (hc : 2 ≤ c) (hc' : c ≤ maxLen)
    (h0 : w.cell? ⟨g, 0, none⟩ = some (.string a)) (h1 : w.cell? ⟨g, 1, none⟩ = some (.string b)) (h2 : w.cell? ⟨g, 2, none⟩ = some (.string a)) (h3 : w.cell? ⟨g, 3, none⟩ = some (.string b))
    (f2 : w.frozen? ⟨g, 2, none⟩ = false) (f3 : w.frozen? ⟨g, 3, none⟩ = false) :
    Calls Tryz.prog 113 #[.slice (some ⟨g, 0, none⟩) 2 c] w fun e w' => e = .returned (.slice (some ⟨g, 0, none⟩) 1 c) ∧ Below g w w' := by
  unfold maxLen at hc'
  have heq := fun a b c d w => eql_key a b c d w
  have hk := eqK_self a b
  have hcl : ∀ nq ty, (Builtin.clear_ #[118] ty #[.slice (some ⟨g, 2, none⟩) 1 (c - 1)]).run Tryz.prog (w.drewN nq) = .ok (.tuple #[]) ((w.drewN nq).setCells g 2 (List.replicate (1 * 2) (.string ⟨#[]⟩))) := by
    intro nq ty
    refine run_clear_key (w.drewN nq) ty g 2 1 (c - 1) (by omega) ?_ ?_
    · intro j hj
      rcases (show j = 0 ∨ j = 1 by omega) with rfl | rfl
      · show (w.cell? ⟨g, 2, none⟩).isSome = true; rw [h2]; rfl
      · show (w.cell? ⟨g, 3, none⟩).isSome = true; rw [h3]; rfl
    · intro j hj
      rcases (show j = 0 ∨ j = 1 by omega) with rfl | rfl
      · exact f2
      · exact f3
  generalize List.replicate (1 * 2) (Value.string ⟨#[]⟩) = zs at hcl
  go_enter Tryz.func113, Tryz.ntmps113
  go_wp2_with fail
  refine wp_loop_rounds 1 ?_
  rw [rounds_succ]
  go_wp2_with fail
  go_quiet (fail)
  go_wp2_with fail
  refine wp_loop_rounds 1 ?_
  rw [rounds_succ]
  go_wp2_with fail
  go_ret
  exact ⟨rfl, below_setCells g (Nat.le_refl _) _ _ (below_drewN (Below.refl _ _) _)⟩

end Go.Proofs.YticfpkodoghnnaaGreat.Z

/-
  The order of keys, in plain lists of bytes.
-/
namespace Go.Proofs.YticfpkodoghnnaaGreat.Z

theorem cb_self (a : List UInt8) : Lib.compareBytes a a = 0 := by
  induction a with
  | nil => rfl
  | cons x a ih => unfold Lib.compareBytes; simp [ih]

theorem cb_zero (a b : List UInt8) : Lib.compareBytes a b = 0 ↔ a = b := by
  constructor
  · induction a generalizing b with
    | nil => cases b with
      | nil => intro _; rfl
      | cons y b => intro h; simp [Lib.compareBytes] at h
    | cons x a ih => cases b with
      | nil => intro h; simp [Lib.compareBytes] at h
      | cons y b =>
        intro h
        unfold Lib.compareBytes at h
        split at h
        · simp at h
        · split at h
          · simp at h
          · rename_i h1 h2
            have : x = y := by
              apply UInt8.toNat_inj.1
              rw [UInt8.lt_iff_toNat_lt] at h1 h2
              omega
            rw [this, ih b h]
  · rintro rfl; exact cb_self a

theorem cb_neg (a b : List UInt8) : Lib.compareBytes b a = - Lib.compareBytes a b := by
  induction a generalizing b with
  | nil => cases b <;> simp [Lib.compareBytes]
  | cons x a ih => cases b with
    | nil => simp [Lib.compareBytes]
    | cons y b =>
      unfold Lib.compareBytes
      by_cases h1 : x < y
      · have h2 : ¬ y < x := by rw [UInt8.lt_iff_toNat_lt] at h1 ⊢; omega
        simp [h1, h2]
      · by_cases h2 : y < x
        · simp [h1, h2]
        · simp [h1, h2, ih b]

theorem cb_range (a b : List UInt8) : Lib.compareBytes a b = -1 ∨ Lib.compareBytes a b = 0 ∨ Lib.compareBytes a b = 1 := by
  induction a generalizing b with
  | nil => cases b <;> simp [Lib.compareBytes]
  | cons x a ih => cases b with
    | nil => simp [Lib.compareBytes]
    | cons y b =>
      unfold Lib.compareBytes
      by_cases h1 : x < y
      · simp [h1]
      · by_cases h2 : y < x
        · simp [h1, h2]
        · simpa [h1, h2] using ih b

theorem cb_lt_trans (a b c : List UInt8) (h1 : Lib.compareBytes a b < 0) (h2 : Lib.compareBytes b c < 0) : Lib.compareBytes a c < 0 := by
  induction a generalizing b c with
  | nil => cases c with
    | nil => cases b <;> simp [Lib.compareBytes] at h1 h2
    | cons z c => simp [Lib.compareBytes]
  | cons x a ih => cases b with
    | nil => simp [Lib.compareBytes] at h1
    | cons y b => cases c with
      | nil => simp [Lib.compareBytes] at h2
      | cons z c =>
        unfold Lib.compareBytes at h1 h2 ⊢
        simp only [UInt8.lt_iff_toNat_lt] at h1 h2 ⊢
        by_cases p1 : x.toNat < y.toNat
        · by_cases q1 : y.toNat < z.toNat
          · rw [if_pos (by omega)]; decide
          · rw [if_neg q1] at h2
            by_cases q2 : z.toNat < y.toNat
            · rw [if_pos q2] at h2; simp at h2
            · rw [if_pos (by omega)]; decide
        · rw [if_neg p1] at h1
          by_cases p2 : y.toNat < x.toNat
          · rw [if_pos p2] at h1; simp at h1
          · rw [if_neg p2] at h1
            by_cases q1 : y.toNat < z.toNat
            · rw [if_pos (by omega)]; decide
            · rw [if_neg q1] at h2
              by_cases q2 : z.toNat < y.toNat
              · rw [if_pos q2] at h2; simp at h2
              · rw [if_neg q2] at h2
                rw [if_neg (by omega), if_neg (by omega)]
                exact ih b c h1 h2

theorem cb_less (a b : List UInt8) : decide (Lib.compareBytes a b < 0) = Op.bytesLess a b := by
  induction a generalizing b with
  | nil => cases b <;> simp [Lib.compareBytes, Op.bytesLess]
  | cons x a ih => cases b with
    | nil => simp [Lib.compareBytes, Op.bytesLess]
    | cons y b =>
      unfold Lib.compareBytes Op.bytesLess
      rw [← ih b]
      by_cases h1 : x < y
      · simp [h1]
      · by_cases h2 : y < x
        · have hne : (x == y) = false := by
            rw [beq_eq_false_iff_ne]; rintro rfl; exact h1 h2
          simp [h1, h2, hne]
        · have he : x = y := by
            apply UInt8.toNat_inj.1
            rw [UInt8.lt_iff_toNat_lt] at h1 h2
            omega
          simp [he]

/-- The order of pairs: by the first, then by the second. -/
def pairI (x y : Int) : Int := if x = 0 then y else x

def cmpL (a b c d : List UInt8) : Int := pairI (Lib.compareBytes a c) (Lib.compareBytes b d)

theorem cmpL_cases (a b c d : List UInt8) : (a = c ∧ cmpL a b c d = Lib.compareBytes b d) ∨ (a ≠ c ∧ Lib.compareBytes a c ≠ 0 ∧ cmpL a b c d = Lib.compareBytes a c) := by
  unfold cmpL pairI
  by_cases h : Lib.compareBytes a c = 0
  · left; exact ⟨(cb_zero a c).1 h, by rw [if_pos h]⟩
  · right; exact ⟨fun e => h ((cb_zero a c).2 e), h, by rw [if_neg h]⟩

theorem cmpL_neg (a b c d : List UInt8) : cmpL c d a b = - cmpL a b c d := by
  unfold cmpL pairI
  rw [cb_neg a c, cb_neg b d]
  by_cases h : Lib.compareBytes a c = 0
  · rw [if_pos h, if_pos (by omega)]
  · rw [if_neg h, if_neg (by omega)]

theorem cmpL_range (a b c d : List UInt8) : cmpL a b c d = -1 ∨ cmpL a b c d = 0 ∨ cmpL a b c d = 1 := by
  rcases cmpL_cases a b c d with ⟨_, h⟩ | ⟨_, _, h⟩ <;> rw [h] <;> exact cb_range _ _

theorem cmpL_zero (a b c d : List UInt8) : cmpL a b c d = 0 ↔ a = c ∧ b = d := by
  rcases cmpL_cases a b c d with ⟨h1, h⟩ | ⟨h1, h2, h⟩
  · rw [h, cb_zero]; exact ⟨fun e => ⟨h1, e⟩, fun e => e.2⟩
  · rw [h]; exact ⟨fun e => absurd e h2, fun e => absurd e.1 h1⟩

theorem cmpL_lt_trans (a b c d e f : List UInt8) (h1 : cmpL a b c d < 0) (h2 : cmpL c d e f < 0) : cmpL a b e f < 0 := by
  rcases cmpL_cases a b c d with ⟨p1, p⟩ | ⟨p1, _, p⟩ <;> rcases cmpL_cases c d e f with ⟨q1, q⟩ | ⟨q1, _, q⟩ <;> rcases cmpL_cases a b e f with ⟨r1, r⟩ | ⟨r1, _, r⟩ <;> rw [p] at h1 <;> rw [q] at h2 <;> rw [r]
  · exact cb_lt_trans _ _ _ h1 h2
  · exact absurd (p1.trans q1) r1
  · exact absurd (p1.symm.trans r1) q1
  · rw [p1]; exact h2
  · exact absurd (r1.trans q1.symm) p1
  · rw [← q1]; exact h1
  · have := cb_lt_trans _ _ _ h1 h2; rw [r1, cb_self] at this; omega
  · exact cb_lt_trans _ _ _ h1 h2

theorem cmpL_le_trans (a b c d e f : List UInt8) (h1 : cmpL a b c d ≤ 0) (h2 : cmpL c d e f ≤ 0) : cmpL a b e f ≤ 0 := by
  by_cases p : cmpL a b c d = 0
  · obtain ⟨rfl, rfl⟩ := (cmpL_zero _ _ _ _).1 p; exact h2
  · by_cases q : cmpL c d e f = 0
    · obtain ⟨rfl, rfl⟩ := (cmpL_zero _ _ _ _).1 q; exact h1
    · have := cmpL_lt_trans a b c d e f (by omega) (by omega); omega

/-- What the document says: by the type, then by the id, each by bytes. -/
theorem cmpL_less (a b c d : List UInt8) : decide (cmpL a b c d < 0) = (Op.bytesLess a c || (a == c && Op.bytesLess b d)) := by
  rw [← cb_less, ← cb_less]
  rcases cmpL_cases a b c d with ⟨h1, h⟩ | ⟨h1, h2, h⟩
  · subst h1; rw [h, cb_self]; simp
  · have hne : (a == c) = false := beq_eq_false_iff_ne.2 h1
    rw [h, hne]; simp

end Go.Proofs.YticfpkodoghnnaaGreat.Z

/-
  Sort of package name at two keys that are one.
-/
namespace Go.Proofs.YticfpkodoghnnaaGreat.Z
open Go.RowKit Go.Sort Go.Lib

def encKey (x : ByteArray × ByteArray) : List Value := [.string x.1, .string x.2]
def cmpK (x y : ByteArray × ByteArray) : Int := cmpI x.1 x.2 y.1 y.2

theorem cmpI_eq (a b c d : ByteArray) : cmpI a b c d = cmpL a.data.toList b.data.toList c.data.toList d.data.toList := rfl

theorem ltK (x y : ByteArray × ByteArray) : ltOf cmpK x y = decide (cmpL x.1.data.toList x.2.data.toList y.1.data.toList y.2.data.toList < 0) := rfl

theorem swoK : SWO (ltOf cmpK) where
  irrefl x := by rw [ltK, (cmpL_zero _ _ _ _).2 ⟨rfl, rfl⟩]; rfl
  trans x y z h1 h2 := by
    rw [ltK, decide_eq_true_iff] at *
    exact cmpL_lt_trans _ _ _ _ _ _ h1 h2
  ntrans x y z h1 h2 := by
    rw [ltK, decide_eq_false_iff_not] at *
    intro h
    have n1 := cmpL_neg x.1.data.toList x.2.data.toList y.1.data.toList y.2.data.toList
    have n2 := cmpL_neg y.1.data.toList y.2.data.toList z.1.data.toList z.2.data.toList
    have n3 := cmpL_neg x.1.data.toList x.2.data.toList z.1.data.toList z.2.data.toList
    have := cmpL_le_trans z.1.data.toList z.2.data.toList y.1.data.toList y.2.data.toList x.1.data.toList x.2.data.toList (by omega) (by omega)
    omega

theorem three_new (W : World) (o1 o2 o3 : Obj) : (((W.alloc o1).alloc o2).alloc o3).drew = grow (W.drewN 1) #[o1, o2, o3] := by
  rw [alloc_eq_grow, alloc_eq_grow, alloc_eq_grow, grow_grow, grow_grow]; rfl

theorem cmpLaysK (blk off size : Nat) (w : World) : CmpLays Tryz.prog 99 #[] encKey 2 cmpK blk off size w :=
  fun _ _ _ _ x y => (compare_eq x.1 x.2 y.1 y.2 _).mono fun _ _ ⟨h1, h2⟩ => ⟨h1, 1, _, h2.trans (three_new _ _ _ _)⟩

theorem enters23 : ∀ args w, (callFunc 99 args).run Tryz.prog w = .ok (.enter 99 args) w := enters_of Tryz.func99 (by kernel_rfl) rfl

theorem zsortfunc_any (blk off cap : Nat) (d : Array (ByteArray × ByteArray)) (w : World) (hH : HoldsK encKey 2 w blk off d) (hblk : blk < w.heap.size) (hsz : d.size < 4611686018427387904) :
    Calls Tryz.prog 112 #[.slice (some ⟨blk, off, none⟩) d.size cap, .func (.func 99) #[] #[]] w fun e w' =>
      e = .returned (.tuple #[]) ∧ ∃ d' n os, PermIn 0 d.size d d' ∧ SortedIn (ltOf cmpK) 0 d.size d' ∧ w' = sortWorldK encKey 2 w blk off n d' os :=
  AnyQ.slices_SortFunc Tryz.sortKey 2 Tryz.isAgg31 Tryz.sizeOf31 encKey (fun _ => rfl) (fun x v hv => by simp [encKey] at hv; rcases hv with rfl | rfl <;> rfl) cmpK swoK 99 #[] blk off cap d w enters23 (cmpLaysK blk off d.size w) hH hblk hsz

theorem zclone_any (b off n c : Nat) (news : List Value) (w : World) (hl : news.length = n * 2) (hn : n ≤ maxLen) (hbig : n * 32 ≤ 140737488355328)
    (hc : ∀ j u, news[j]? = some u → w.cell? ⟨b, off + j, none⟩ = some u) (h1 : ∀ u ∈ news, u.oneCell' = true) :
    Calls Tryz.prog 111 #[.slice (some ⟨b, off, none⟩) n c] w fun e w' => ∃ v', e = .returned v' ∧ w'.ownsRow w.heap.size 31 2 v' n news ∧ v' ≠ .slice none 0 0 ∧ Below w.heap.size w w' := by
  have hs : (Tryz.prog.info? 31).isSome = true := by kernel_rfl
  have hi : ∃ i0, Tryz.prog.info? 31 = some i0 ∧ i0.zero = some (.agg #[.string ⟨#[]⟩, .string ⟨#[]⟩]) ∧ i0.size = 2 ∧ i0.bytes = 32 :=
    ⟨(Tryz.prog.info? 31).get hs, (Option.some_get hs).symm, by kernel_rfl, by kernel_rfl, by kernel_rfl⟩
  obtain ⟨i0, e1, e2, e3, e4⟩ := hi
  exact AnyE.slices_Clone Tryz.cloneKey i0 _ 2 32 e1 e2 e3 e4 rfl (by omega) Tryz.sizeOf31 b off n c news w hl hn hbig hc h1

/-- The cells of a row of keys. -/
def cellsK (d : Array (ByteArray × ByteArray)) : List Value := d.toList.flatMap encKey

theorem below_sortWorld {B : Nat} {w0 w : World} (h : Below B w0 w) (hB : B ≤ w.heap.size) (blk off n : Nat) (d : Array (ByteArray × ByteArray)) (os : Array Obj) (hb : B ≤ blk) : Below B w0 (sortWorldK encKey 2 w blk off n d os) := by
  refine h.trans ⟨rfl, rfl, rfl, ?_, ?_⟩
  · simp [sortWorldK, putRowK]
  · intro k hk
    have hks : k < w.heap.size := by omega
    simp only [sortWorldK, grow, putRowK, putRow, mapBlock, Sort.ahead]
    rw [Array.getElem?_append_left (by simpa using hks), Array.getElem?_modify, if_neg (by omega)]

theorem flat_get (l : List (ByteArray × ByteArray)) (t : Nat) (h : t < l.length * 2) : (l.flatMap encKey)[t]? = some (encKey (l[t / 2]!))[t % 2]! := by
  induction l generalizing t with
  | nil => simp at h
  | cons x l ih =>
    rw [List.flatMap_cons]
    by_cases h2 : t < 2
    · rcases (show t = 0 ∨ t = 1 by omega) with rfl | rfl <;> simp [encKey]
    · obtain ⟨u, rfl⟩ : ∃ u, t = u + 2 := ⟨t - 2, by omega⟩
      have hl : (encKey x).length = 2 := rfl
      rw [List.getElem?_append_right (by omega), hl, show u + 2 - 2 = u by omega, ih u (by simp at h; omega), show (u + 2) / 2 = u / 2 + 1 by omega, show (u + 2) % 2 = u % 2 by omega]
      simp

theorem holds_of_heap {w : World} {g : Nat} {cur : Array Value} {e : TypeId} (d : Array (ByteArray × ByteArray)) (hheap : w.heap[g]? = some (.cells cur e (0, 0))) (htake : cur.toList.take (d.size * 2) = cellsK d) : HoldsK encKey 2 w g 0 d := by
  intro j hj
  rw [size_flatK] at hj
  have hg := flat_get d.toList j (by simpa using hj)
  have h1 : (cur.toList.take (d.size * 2))[j]? = some (encKey (d.toList[j / 2]!))[j % 2]! := by rw [htake]; exact hg
  rw [List.getElem?_take_of_lt hj] at h1
  rw [get_flatK _ _ _ _ hj]
  constructor
  · simp only [World.cell?, hheap, Nat.zero_add]
    have he : d.toList[j / 2]! = d[j / 2]! := by
      rw [getElem!_pos d (j / 2) (by omega), getElem!_pos d.toList (j / 2) (by simp; omega)]; simp
    rw [← Array.getElem?_toList, h1, he]
    rfl
  · simp [World.frozen?, hheap]

end Go.Proofs.YticfpkodoghnnaaGreat.Z

/-
  Rows of keys in memory: their cells, and what a slice of keys holds.
-/
namespace Go.Proofs.YticfpkodoghnnaaGreat.Z
open Go.RowKit

def cellsL (d : List (ByteArray × ByteArray)) : List Value := d.flatMap encKey

theorem cellsL_cons (x : ByteArray × ByteArray) (d : List (ByteArray × ByteArray)) : cellsL (x :: d) = .string x.1 :: .string x.2 :: cellsL d := rfl
theorem cellsL_append (d e : List (ByteArray × ByteArray)) : cellsL (d ++ e) = cellsL d ++ cellsL e := List.flatMap_append
theorem cellsL_length (d : List (ByteArray × ByteArray)) : (cellsL d).length = d.length * 2 := by
  induction d with
  | nil => rfl
  | cons x d ih => rw [cellsL_cons]; simp [ih]; omega
theorem cellsL_one (d : List (ByteArray × ByteArray)) : ∀ u ∈ cellsL d, u.oneCell' = true := by
  intro u hu
  obtain ⟨x, _, hx⟩ := List.mem_flatMap.1 hu
  simp [encKey] at hx
  rcases hx with rfl | rfl <;> rfl
theorem cellsL_get (d : List (ByteArray × ByteArray)) (i : Nat) (h : i < d.length) : (cellsL d)[i * 2]? = some (.string d[i].1) ∧ (cellsL d)[i * 2 + 1]? = some (.string d[i].2) := by
  induction d generalizing i with
  | nil => simp at h
  | cons x d ih =>
    rw [cellsL_cons]
    cases i with
    | zero => simp
    | succ i =>
      have := ih i (by simpa using h)
      rw [show (i + 1) * 2 = i * 2 + 1 + 1 by omega]
      simpa using this
theorem cellsL_set (d : List (ByteArray × ByteArray)) (i : Nat) (a b : ByteArray) (h : i < d.length) : ((cellsL d).set (i * 2) (.string a)).set (i * 2 + 1) (.string b) = cellsL (d.set i (a, b)) := by
  induction d generalizing i with
  | nil => simp at h
  | cons x d ih =>
    rw [cellsL_cons]
    cases i with
    | zero => simp [cellsL_cons]
    | succ i =>
      rw [show (i + 1) * 2 = i * 2 + 1 + 1 by omega]
      simp only [List.set_cons_succ, cellsL_cons]
      rw [ih i (by simpa using h)]
theorem cellsL_take (d : List (ByteArray × ByteArray)) (k : Nat) : (cellsL d).take (k * 2) = cellsL (d.take k) := by
  induction d generalizing k with
  | nil => simp [cellsL]
  | cons x d ih =>
    cases k with
    | zero => simp [cellsL]
    | succ k => rw [show (k + 1) * 2 = k * 2 + 1 + 1 by omega, cellsL_cons]; simp [ih, cellsL_cons]

/-- The keys d lie from off on in block b. -/
def KeysAt (w : World) (b off : Nat) (d : List (ByteArray × ByteArray)) : Prop :=
  ∀ i, (h : i < d.length) → w.cell? ⟨b, off + i * 2, none⟩ = some (.string d[i].1) ∧ w.cell? ⟨b, off + i * 2 + 1, none⟩ = some (.string d[i].2)

/-- v is a slice that holds the keys d. -/
def IsKeys (w : World) (v : Value) (d : List (ByteArray × ByteArray)) : Prop :=
  ∃ p cap, v = .slice p d.length cap ∧ (d = [] ∨ ∃ b off, p = some ⟨b, off, none⟩ ∧ KeysAt w b off d)

theorem KeysAt.kept {W w' : World} {b off : Nat} {d : List (ByteArray × ByteArray)} (h : KeysAt W b off d) (hq : Below W.heap.size W w') : KeysAt w' b off d := by
  intro i hi
  have hc := bcell hq
  obtain ⟨h1, h2⟩ := h i hi
  have lt : b < W.heap.size := by
    rcases Nat.lt_or_ge b W.heap.size with h' | h'
    · exact h'
    · simp [World.cell?, Array.getElem?_eq_none h'] at h1
  exact ⟨by rw [hc.1 _ _ lt]; exact h1, by rw [hc.1 _ _ lt]; exact h2⟩
theorem IsKeys.kept {W w' : World} {v : Value} {d : List (ByteArray × ByteArray)} (h : IsKeys W v d) (hq : Below W.heap.size W w') : IsKeys w' v d := by
  obtain ⟨p, cap, rfl, h | ⟨b, off, rfl, h⟩⟩ := h
  · exact ⟨p, cap, rfl, .inl h⟩
  · exact ⟨_, cap, rfl, .inr ⟨b, off, rfl, h.kept hq⟩⟩

/-- v is a slice of the call's own that holds the keys d. -/
def Own (w : World) (base : Nat) (v : Value) (d : List (ByteArray × ByteArray)) : Prop := w.ownsRow base 31 2 v d.length (cellsL d)

theorem Own.keysAt {w : World} {base g n cap : Nat} {d : List (ByteArray × ByteArray)} (h : Own w base (.slice (some ⟨g, 0, none⟩) n cap) d) : n = d.length ∧ KeysAt w g 0 d := by
  have hn : n = d.length := by
    rcases h.2 with ⟨h', _⟩ | ⟨_, _, _, h', _⟩
    · simp at h'
    · simp only [Value.slice.injEq] at h'; exact h'.2.1
  subst hn
  refine ⟨rfl, fun i hi => ?_⟩
  have e := cellsL_get d i hi
  rw [Nat.zero_add, World.ownsRow.cellAt h (i * 2) (by omega), World.ownsRow.cellAt h (i * 2 + 1) (by omega)]
  exact e
theorem Own.is {w : World} {base : Nat} {v : Value} {d : List (ByteArray × ByteArray)} (h : Own w base v d) : IsKeys w v d := by
  rcases h.2 with ⟨rfl, h0⟩ | ⟨g, cap, cur, rfl, _⟩
  · exact ⟨none, 0, by rw [h0], .inl (List.eq_nil_of_length_eq_zero h0)⟩
  · exact ⟨_, cap, rfl, .inr ⟨g, 0, rfl, h.keysAt.2⟩⟩

end Go.Proofs.YticfpkodoghnnaaGreat.Z

/-
  The contract of SameKeys.
-/
namespace Go.Proofs.YticfpkodoghnnaaGreat.Z
open Go.RowKit

theorem eqK_iff (x y : ByteArray × ByteArray) : eqK x.1 x.2 y.1 y.2 = decide (x = y) := by
  unfold eqK
  rw [Lib.toList_data, Lib.toList_data, Lib.toList_data, Lib.toList_data, Bool.eq_iff_iff, decide_eq_true_iff]
  obtain ⟨⟨⟨a⟩⟩, ⟨⟨b⟩⟩⟩ := x
  obtain ⟨⟨⟨c⟩⟩, ⟨⟨d⟩⟩⟩ := y
  simp

end Go.Proofs.YticfpkodoghnnaaGreat.Z

/-
  slices.Compact at keys, whatever their number.
-/
namespace Go.Proofs.YticfpkodoghnnaaGreat.Z
open Go.RowKit Go.Lib

theorem toArray_get! (d : List (ByteArray × ByteArray)) (i : Nat) (h : i < d.length) : d.toArray[i]! = d[i] := by
  rw [getElem!_pos d.toArray i (by simpa using h)]; simp

theorem zown_at {w : World} {base g n cap : Nat} {dk : Array (ByteArray × ByteArray)} (h : Own w base (.slice (some ⟨g, 0, none⟩) n cap) dk.toList) (i : Nat) (hi : i < dk.size) :
    w.cell? ⟨g, i * 2, none⟩ = some (.string dk[i]!.1) ∧ w.cell? ⟨g, i * 2 + 1, none⟩ = some (.string dk[i]!.2) ∧ w.frozen? ⟨g, i * 2, none⟩ = false ∧ w.frozen? ⟨g, i * 2 + 1, none⟩ = false := by
  obtain ⟨rfl, hk⟩ := h.keysAt
  have := hk i (by simpa using hi)
  rw [Nat.zero_add] at this
  have e : dk.toList[i]'(by simpa using hi) = dk[i]! := by rw [getElem!_pos dk i hi]; simp
  rw [e] at this
  exact ⟨this.1, this.2, World.ownsRow.frozenAt h _, World.ownsRow.frozenAt h _⟩

theorem zown_frozen {w : World} {base g n cap : Nat} {d : List (ByteArray × ByteArray)} (h : Own w base (.slice (some ⟨g, 0, none⟩) n cap) d) (j : Nat) : w.frozen? ⟨g, j, none⟩ = false := by
  obtain ⟨rfl, _⟩ := h.keysAt
  exact World.ownsRow.frozenAt h j
theorem zown_some {w : World} {base g n cap : Nat} {d : List (ByteArray × ByteArray)} (h : Own w base (.slice (some ⟨g, 0, none⟩) n cap) d) (j : Nat) (hj : j < d.length * 2) : (w.cell? ⟨g, j, none⟩).isSome = true := by
  obtain ⟨rfl, _⟩ := h.keysAt
  rw [World.ownsRow.cellAt h j hj, List.getElem?_eq_getElem (by rw [cellsL_length]; exact hj)]
  rfl

theorem zown_store {w : World} {base g n cap : Nat} {dk : Array (ByteArray × ByteArray)} (h : Own w base (.slice (some ⟨g, 0, none⟩) n cap) dk.toList) (i : Nat) (hi : i < dk.size) (a b : ByteArray) :
    Own ((w.setCell ⟨g, i * 2, none⟩ (.string a)).setCell ⟨g, i * 2 + 1, none⟩ (.string b)) base (.slice (some ⟨g, 0, none⟩) n cap) (dk.setIfInBounds i (a, b)).toList := by
  obtain ⟨rfl, _⟩ := h.keysAt
  have h1 := (World.ownsRow.stored h (i * 2) (.string a)).1
  have h2 := (World.ownsRow.stored h1 (i * 2 + 1) (.string b)).1
  rw [cellsL_set _ _ _ _ (by simpa using hi)] at h2
  unfold Own
  simpa using h2

theorem zown_cut {w : World} {base g n cap : Nat} {xs : List Value} (h : w.ownsRow base 31 2 (.slice (some ⟨g, 0, none⟩) n cap) n xs) (k : Nat) (hk : k ≤ n) :
    w.ownsRow base 31 2 (.slice (some ⟨g, 0, none⟩) k cap) k (xs.take (k * 2)) := by
  obtain ⟨hl, h' | ⟨g', cap', cur, h', hb, hg, hnc, hcm, hcs, ht⟩⟩ := h
  · simp at h'
  · simp only [Value.slice.injEq, Option.some.injEq, Addr.mk.injEq, and_true, true_and] at h'
    obtain ⟨rfl, rfl⟩ := h'
    refine ⟨by rw [List.length_take, hl]; omega, .inr ⟨g, cap, cur, rfl, hb, hg, by omega, hcm, hcs, ?_⟩⟩
    rw [← ht, List.take_take, Nat.min_eq_left (by omega)]

theorem zown_setCells {base g k cap : Nat} {xs : List Value} : ∀ (vs : List Value) (o : Nat) (w : World), k * 2 ≤ o → w.ownsRow base 31 2 (.slice (some ⟨g, 0, none⟩) k cap) k xs →
    (w.setCells g o vs).ownsRow base 31 2 (.slice (some ⟨g, 0, none⟩) k cap) k xs
  | [], _, _, _, h => h
  | v :: vs, o, w, ho, h => by
    unfold World.setCells
    refine zown_setCells vs (o + 1) _ (by omega) ?_
    have := (World.ownsRow.stored h o v).1
    rwa [List.set_eq_of_length_le (by rw [h.1]; omega)] at this

theorem comp_done {d : List (ByteArray × ByteArray)} {kk : Nat} {dk : Array (ByteArray × ByteArray)} (hI : CompInv d.toArray d.length kk dk) : compact d = dk.toList.take kk := by
  have hs : dk.size = d.length := by simpa using hI.size
  have hlt := hI.lt
  unfold compact
  apply List.ext_getElem?
  intro j
  by_cases hj : j < kk
  · rw [hI.low j hj, List.getElem?_take_of_lt hj, List.getElem?_eq_getElem (by simp; omega), getElem!_pos dk j (by omega)]
    simp
  · rw [List.getElem?_eq_none (by rw [hI.len]; omega), List.getElem?_eq_none (by rw [List.length_take]; omega)]

set_option maxHeartbeats 2000000 in
theorem zcompact_own (g cap base : Nat) (d : List (ByteArray × ByteArray)) (w : World) (hown : Own w base (.slice (some ⟨g, 0, none⟩) d.length cap) d) (hcap : d.length ≤ cap) (hm : cap ≤ maxLen) :
    Calls Tryz.prog 113 #[.slice (some ⟨g, 0, none⟩) d.length cap] w fun e w' =>
      e = .returned (.slice (some ⟨g, 0, none⟩) (compact d).length cap) ∧ Own w' base (.slice (some ⟨g, 0, none⟩) (compact d).length cap) (compact d) ∧ Below g w w' := by
  unfold maxLen at hm
  have HO := hid hown
  clear hown
  have hsame : (∀ j, j < d.length → keeps d.toArray j = true) → compact d = d := compact_all d
  have HS := hid hsame
  clear hsame
  have heq := fun a b c d w => eql_key a b c d w
  have hneq := fun a b c d w => neq_key a b c d w
  by_cases h2 : d.length < 2
  · have h2' : (d.length : Int) < 2 := by omega
    go_enter Tryz.func113, Tryz.ntmps113
    go_wp2
    go_ret
    have e := HS.out (fun j hj => keeps_lt_one _ j (by omega))
    rw [e]
    exact ⟨rfl, HO.out, Below.refl _ _⟩
  · have h2' : ¬ (d.length : Int) < 2 := by omega
    go_enter Tryz.func113, Tryz.ntmps113
    go_wp2
    go_loopg [3] d.length (fun gh s3 wr => ∃ k q : Nat, 1 ≤ k ∧ k ≤ d.length ∧ d.length - k ≤ gh ∧ s3 = .int .i64 k ∧ wr = w.drewN q ∧ ∀ j, j < k → keeps d.toArray j = true)
    case atStart => exact ⟨1, 0, Nat.le_refl _, by omega, by omega, rfl, rfl, keeps_lt_one _⟩
    case round =>
      obtain ⟨k, q, hk1, hk, hg, rfl, rfl, hall⟩ := hrel
      have HA := hid hall
      clear hall
      by_cases hlt : k < d.length
      · have hD : d = d.toArray.toList := by simp
        have ho' : Own w base (.slice (some ⟨g, 0, none⟩) d.length cap) d.toArray.toList := by rw [← hD]; exact HO.out
        obtain ⟨a1, a2, _, _⟩ := zown_at ho' k (by simpa using hlt)
        obtain ⟨p1, p2, _, _⟩ := zown_at ho' (k - 1) (by simp; omega)
        have HV : Hid (d.toArray[k]! = d.toArray[k]! ∧ d.toArray[k - 1]! = d.toArray[k - 1]!) := ⟨rfl, rfl⟩
        have HO' := hid ho'
        clear ho' hD
        have hx : ∃ x y, d.toArray[k]! = x ∧ d.toArray[k - 1]! = y := ⟨_, _, rfl, rfl⟩
        obtain ⟨⟨x1, x2⟩, ⟨y1, y2⟩, ex, ey⟩ := hx
        rw [ex] at a1 a2
        rw [ey] at p1 p2
        have HE := hid (And.intro ex ey)
        clear ex ey HV
        have i1 : (0 : Int) ≤ ↑k - 1 := by omega
        have i2 : (↑k : Int) < ↑d.length := by omega
        have i3 : (↑k - 1 : Int) < ↑d.length := by omega
        by_cases hdup : (x1, x2) = (y1, y2)
        · obtain ⟨rfl, rfl⟩ := Prod.mk.inj hdup
          have hk2 := eqK_self x1 x2
          go_wp2_with fail
          go_quiet (fail)
          go_wp2_with fail
          have hstart : CompInv d.toArray (k + 1) k d.toArray := CompInv.start HA.out (keeps_neg (by omega) (by rw [HE.out.1, HE.out.2]))
          have HST := hid hstart
          clear hstart a1 a2 p1 p2 i1 i2 i3 hk2
          go_loopg [3, 5] d.length (fun gh s3 s5 wr => ∃ (kk k2 : Nat) (dk : Array (ByteArray × ByteArray)), s3 = .int .i64 kk ∧ s5 = .int .i64 k2 ∧ 1 ≤ k2 ∧ k + k2 ≤ d.length ∧ d.length - (k + k2) ≤ gh ∧ Own wr base (.slice (some ⟨g, 0, none⟩) d.length cap) dk.toList ∧ Below g w wr ∧ CompInv d.toArray (k + k2) kk dk)
          case atStart => exact ⟨k, 1, d.toArray, rfl, rfl, Nat.le_refl _, by omega, by omega, HO'.out, below_drewN (Below.refl _ _) _, HST.out⟩
          case round =>
            obtain ⟨kk, k2, dk, rfl, rfl, h1, hle, hg2, ho2, hb2, hI⟩ := hrel
            have hkk := hI.lt
            have hds : dk.size = d.length := by simpa using hI.size
            have HI := hid hI
            have HO2 := hid ho2
            have HB2 := hid hb2
            by_cases hlt2 : k + k2 < d.length
            · obtain ⟨a1, a2, _, _⟩ := zown_at ho2 (k + k2) (by omega)
              obtain ⟨p1, p2, _, _⟩ := zown_at ho2 (k + k2 - 1) (by omega)
              obtain ⟨b1, b2, b3, b4⟩ := zown_at ho2 kk (by omega)
              rw [hI.high (k + k2) (by omega), show (k + k2) * 2 = k * 2 + k2 * 2 by omega] at a1 a2
              rw [hI.high (k + k2 - 1) (by omega), show (k + k2 - 1) * 2 = k * 2 + (k2 - 1) * 2 by omega] at p1 p2
              have hx : ∃ x y, d.toArray[k + k2]! = x ∧ d.toArray[k + k2 - 1]! = y := ⟨_, _, rfl, rfl⟩
              obtain ⟨⟨u1, u2⟩, ⟨v1, v2⟩, ex, ey⟩ := hx
              rw [ex] at a1 a2
              rw [ey] at p1 p2
              have HU := hid (And.intro ex ey)
              clear ex ey ho2 hb2 hI
              generalize dk[kk]!.1 = o1 at *
              generalize dk[kk]!.2 = o2 at *
              have i1 : (0 : Int) ≤ ↑k2 - 1 := by omega
              have i2 : (↑k2 : Int) < ↑(d.length - k) := by omega
              have i3 : (↑k2 - 1 : Int) < ↑(d.length - k) := by omega
              by_cases huv : (u1, u2) = (v1, v2)
              · obtain ⟨rfl, rfl⟩ := Prod.mk.inj huv
                have hk2 := eqK_self u1 u2
                go_wp2_with fail
                go_quiet (fail)
                go_wp2_with fail
                go_roundg (d.length - (k + (k2 + 1)))
                case measure => omega
                case rel => exact ⟨kk, k2 + 1, dk, rfl, by go_num, by omega, by omega, Nat.le_refl _, HO2.out, below_drewN HB2.out _, HI.out.skip (keeps_neg (by omega) (by rw [HU.out.1, HU.out.2]))⟩
              · have hk2 : eqK u1 u2 v1 v2 = false := by rw [eqK_iff (u1, u2) (v1, v2)]; simpa using huv
                have HN := hid huv
                clear huv
                go_wp2_with fail
                go_quiet (fail)
                go_wp2_with fail
                go_roundg (d.length - (k + (k2 + 1)))
                case measure => omega
                case rel =>
                  refine ⟨kk + 1, k2 + 1, dk.setIfInBounds kk (u1, u2), by go_num, by go_num, by omega, by omega, Nat.le_refl _, zown_store HO2.out kk (by omega) u1 u2, below_drewN ((HB2.out.setCell (Nat.le_refl _) _).setCell (Nat.le_refl _) _) _, ?_⟩
                  have := HI.out.keep (by simpa using hlt2) (keeps_pos (by rw [HU.out.1, HU.out.2]; exact HN.out))
                  rwa [HU.out.1] at this
            · have hend : k + k2 = d.length := by omega
              have hcl : ∀ ty, (Builtin.clear_ #[118] ty #[.slice (some ⟨g, kk * 2, none⟩) (d.length - kk) (cap - kk)]).run Tryz.prog wr = .ok (.tuple #[]) (wr.setCells g (kk * 2) (List.replicate ((d.length - kk) * 2) (.string ⟨#[]⟩))) := by
                intro ty
                refine run_clear_key wr ty g (kk * 2) (d.length - kk) (cap - kk) (by omega) ?_ ?_
                · intro j hj
                  exact zown_some ho2 _ (by rw [Array.length_toList]; omega)
                · intro j _
                  exact zown_frozen ho2 _
              generalize hz : List.replicate ((d.length - kk) * 2) (Value.string ⟨#[]⟩) = zs at hcl
              have hdone : compact d = dk.toList.take kk := by
                rw [hend] at hI
                exact comp_done hI
              have HD := hid hdone
              clear hz hdone hI ho2 hb2
              have hlen0 : ¬ k + k2 < d.length := hlt2
              go_wp2_with fail
              go_ret
              have hlk : (compact d).length = kk := by rw [HD.out, List.length_take, Array.length_toList]; omega
              rw [hlk]
              refine ⟨rfl, ?_, below_setCells g (Nat.le_refl _) _ _ HB2.out⟩
              have ho3 := HO2.out
              have hl3 : dk.toList.length = d.length := by rw [Array.length_toList]; exact hds
              unfold Own at ho3 ⊢
              rw [hl3] at ho3
              have h4 := zown_setCells zs (kk * 2) wr (Nat.le_refl _) (zown_cut ho3 kk (by omega))
              rw [cellsL_take, ← HD.out] at h4
              rw [hlk]
              exact h4
        · have hk2 : eqK x1 x2 y1 y2 = false := by rw [eqK_iff (x1, x2) (y1, y2)]; simpa using hdup
          have HN := hid hdup
          clear hdup
          go_wp2_with fail
          go_quiet (fail)
          go_wp2_with fail
          go_roundg (d.length - (k + 1))
          case measure => omega
          case rel =>
            refine ⟨k + 1, q + nq, by omega, by omega, Nat.le_refl _, by go_num, by simp, fun j hj => ?_⟩
            by_cases e : j = k
            · subst e
              exact keeps_pos (by rw [HE.out.1, HE.out.2]; exact HN.out)
            · exact HA.out j (by omega)
      · have hkd : k = d.length := by omega
        have e := HS.out (fun j hj => HA.out j (by omega))
        have HE := hid e
        clear e hkd
        go_wp2
        go_ret
        rw [HE.out]
        exact ⟨rfl, HO.out, below_drewN (Below.refl _ _) _⟩

end Go.Proofs.YticfpkodoghnnaaGreat.Z

/-
  Lists of keys that rise: one for each set of keys.
-/
namespace Go.Proofs.YticfpkodoghnnaaGreat.Z
open Go.Lib Go.Sort

/-- x stands ahead of y. -/
def ahead (x y : ByteArray × ByteArray) : Prop := cmpK x y < 0

theorem ahead_iff (x y : ByteArray × ByteArray) : ltOf cmpK x y = true ↔ ahead x y := by
  unfold ltOf ahead; rw [decide_eq_true_iff]
theorem ahead_irrefl (x : ByteArray × ByteArray) : ¬ ahead x x := by
  unfold ahead cmpK; rw [cmpI_eq, (cmpL_zero _ _ _ _).2 ⟨rfl, rfl⟩]; omega
theorem ahead_trans {x y z : ByteArray × ByteArray} (h1 : ahead x y) (h2 : ahead y z) : ahead x z := cmpL_lt_trans _ _ _ _ _ _ h1 h2
theorem ahead_total (x y : ByteArray × ByteArray) : ahead x y ∨ x = y ∨ ahead y x := by
  have hn : cmpK y x = - cmpK x y := cmpL_neg _ _ _ _
  have hr : cmpK x y = -1 ∨ cmpK x y = 0 ∨ cmpK x y = 1 := cmpL_range _ _ _ _
  rcases hr with h | h | h
  · left; unfold ahead; omega
  · right; left
    obtain ⟨h1, h2⟩ := (cmpL_zero _ _ _ _).1 h
    obtain ⟨⟨⟨a⟩⟩, ⟨⟨b⟩⟩⟩ := x
    obtain ⟨⟨⟨c⟩⟩, ⟨⟨d⟩⟩⟩ := y
    simp at h1 h2
    rw [h1, h2]
  · right; right; unfold ahead; omega

def Rises (r : List (ByteArray × ByteArray)) : Prop := r.Pairwise ahead

theorem rises_uniq {r s : List (ByteArray × ByteArray)} (hr : Rises r) (hs : Rises s) (h : ∀ x, x ∈ r ↔ x ∈ s) : r = s := by
  induction r generalizing s with
  | nil =>
    cases s with
    | nil => rfl
    | cons y s => exact absurd ((h y).2 (List.mem_cons_self ..)) (by simp)
  | cons x r ih =>
    cases s with
    | nil => exact absurd ((h x).1 (List.mem_cons_self ..)) (by simp)
    | cons y s =>
      obtain ⟨hx, hr'⟩ := List.pairwise_cons.1 hr
      obtain ⟨hy, hs'⟩ := List.pairwise_cons.1 hs
      have hxy : x = y := by
        rcases List.mem_cons.1 ((h x).1 (List.mem_cons_self ..)) with e | e
        · exact e
        · rcases List.mem_cons.1 ((h y).2 (List.mem_cons_self ..)) with e' | e'
          · exact e'.symm
          · exact absurd (ahead_trans (hx y e') (hy x e)) (ahead_irrefl x)
      subst hxy
      rw [ih hr' hs' fun z => ?_]
      constructor
      · intro hz
        rcases List.mem_cons.1 ((h z).1 (List.mem_cons_of_mem _ hz)) with e | e
        · exact absurd (hx z hz) (by rw [e]; exact ahead_irrefl _)
        · exact e
      · intro hz
        rcases List.mem_cons.1 ((h z).2 (List.mem_cons_of_mem _ hz)) with e | e
        · exact absurd (hy z hz) (by rw [e]; exact ahead_irrefl _)
        · exact e

theorem compact_rises (d : Array (ByteArray × ByteArray)) (n : Nat) (hs : SortedIn (ltOf cmpK) 0 n d) : ∀ m, m ≤ n →
    Rises (compactUpTo d m) ∧ (∀ x, x ∈ compactUpTo d m → ∃ j, j < m ∧ x = d[j]!) ∧ (∀ j, j < m → d[j]! ∈ compactUpTo d m) := by
  intro m
  induction m with
  | zero => intro _; exact ⟨List.Pairwise.nil, fun x hx => by simp [compactUpTo] at hx, fun j hj => by omega⟩
  | succ m ih =>
    intro hm
    obtain ⟨h1, h2, h3⟩ := ih (by omega)
    rw [compactUpTo_succ]
    have notlt : ∀ i, i < m → ahead d[i]! d[m]! ∨ d[i]! = d[m]! := by
      intro i hi
      have := hs i m (Nat.zero_le _) hi (by omega)
      rcases ahead_total d[i]! d[m]! with h | h | h
      · exact .inl h
      · exact .inr h
      · rw [(ahead_iff _ _).2 h] at this; cases this
    by_cases hk : keeps d m = true
    · rw [if_pos hk]
      refine ⟨?_, ?_, ?_⟩
      · refine List.pairwise_append.2 ⟨h1, List.pairwise_singleton _ _, fun x hx y hy => ?_⟩
        rw [List.mem_singleton] at hy
        subst hy
        obtain ⟨j, hj, rfl⟩ := h2 x hx
        have hne : d[m]! ≠ d[m - 1]! := by
          have : m = 0 ∨ d[m]! ≠ d[m - 1]! := by simpa [keeps] using hk
          rcases this with h | h
          · omega
          · exact h
        have hlast : ahead d[m - 1]! d[m]! := by
          rcases notlt (m - 1) (by omega) with h | h
          · exact h
          · exact absurd h.symm hne
        by_cases hjm : j = m - 1
        · rw [hjm]; exact hlast
        · have := hs j (m - 1) (Nat.zero_le _) (by omega) (by omega)
          rcases ahead_total d[j]! d[m - 1]! with h | h | h
          · exact ahead_trans h hlast
          · rw [h]; exact hlast
          · rw [(ahead_iff _ _).2 h] at this; cases this
      · intro x hx
        rcases List.mem_append.1 hx with h | h
        · obtain ⟨j, hj, e⟩ := h2 x h
          exact ⟨j, by omega, e⟩
        · exact ⟨m, by omega, List.mem_singleton.1 h⟩
      · intro j hj
        by_cases hjm : j = m
        · subst hjm; exact List.mem_append_right _ (List.mem_singleton.2 rfl)
        · exact List.mem_append_left _ (h3 j (by omega))
    · have hk' : keeps d m = false := by simpa using hk
      rw [if_neg hk, List.append_nil]
      refine ⟨h1, fun x hx => ?_, fun j hj => ?_⟩
      · obtain ⟨j, hj, e⟩ := h2 x hx
        exact ⟨j, by omega, e⟩
      · by_cases hjm : j = m
        · subst hjm
          have : j ≠ 0 ∧ d[j]! = d[j - 1]! := by simpa [keeps] using hk'
          rw [this.2]
          exact h3 (j - 1) (by have := this.1; omega)
        · exact h3 j (by omega)

/-- What sorting and compacting makes of a list: it rises, and holds the same keys. -/
theorem sorted_compact (l : List (ByteArray × ByteArray)) (d : Array (ByteArray × ByteArray)) (hp : PermIn 0 l.length l.toArray d) (hs : SortedIn (ltOf cmpK) 0 l.length d) :
    Rises (compact d.toList) ∧ (∀ x, x ∈ compact d.toList ↔ x ∈ l) ∧ d.size = l.length := by
  obtain ⟨h1, _, h3⟩ := hp
  have hsz : d.size = l.length := by simpa using h1
  have hperm : d.toList.Perm l := by
    have e1 : (d.extract 0 l.length).toList = d.toList := by rw [← hsz]; simp
    have e2 : (l.toArray.extract 0 l.length).toList = l := by simp
    rw [e1, e2] at h3
    exact h3
  have hd : d.toList.toArray = d := by simp
  obtain ⟨r1, r2, r3⟩ := compact_rises d l.length hs l.length (Nat.le_refl _)
  have e : compact d.toList = compactUpTo d l.length := by
    unfold compact
    rw [hd, Array.length_toList, hsz]
  rw [e]
  refine ⟨r1, fun x => ?_, hsz⟩
  rw [← hperm.mem_iff]
  constructor
  · intro hx
    obtain ⟨j, hj, rfl⟩ := r2 x hx
    rw [getElem!_pos d j (by omega)]
    exact Array.getElem_mem_toList ..
  · intro hx
    obtain ⟨j, hj, rfl⟩ := List.mem_iff_getElem.1 hx
    have hj' : j < d.size := by simpa using hj
    have := r3 j (by omega)
    rw [getElem!_pos d j hj'] at this
    simpa using this

end Go.Proofs.YticfpkodoghnnaaGreat.Z

/-
  The contract of Sort of package name, whatever the number of keys.
-/
namespace Go.Proofs.YticfpkodoghnnaaGreat.Z
open Go.RowKit Go.Sort Go.Lib

theorem size_putCells (enc : Value → Value) (off : Nat) (d c : Array Value) : (putCells enc off d c).size = c.size := by
  unfold putCells; simp

theorem zown_sorted {w1 : World} {base g cap n : Nat} {cur : Array Value} {os : Array Obj} (d d' : Array (ByteArray × ByteArray)) (hb : base ≤ g) (hg : g < w1.heap.size) (hheap : w1.heap[g]? = some (.cells cur 31 (0, 0)))
    (hcap : d.size ≤ cap) (hm : cap ≤ maxLen) (hsz : cur.size = cap * 2) (hH : HoldsK encKey 2 w1 g 0 d) (hd : d'.size = d.size) :
    Own (sortWorldK encKey 2 w1 g 0 n d' os) base (.slice (some ⟨g, 0, none⟩) d'.size cap) d'.toList := by
  have hH2 : HoldsK encKey 2 (sortWorldK encKey 2 w1 g 0 n d' os) g 0 d' :=
    holdsK_grow encKey 2 _ os g 0 _ (by simpa [putRowK] using hg) (holdsK_putRowK encKey 2 (Sort.ahead w1 n) g 0 _ _ (holdsK_ahead encKey 2 w1 n g 0 _ hH) hd)
  have hh : (sortWorldK encKey 2 w1 g 0 n d' os).heap[g]? = some (.cells (putCells id 0 (flatK encKey 2 d') cur) 31 (0, 0)) := by
    simp only [sortWorldK, grow, putRowK, putRow, mapBlock, Sort.ahead]
    rw [Array.getElem?_append_left (by simpa using hg), Array.getElem?_modify, if_pos rfl, hheap]
    rfl
  refine ⟨cellsL_length _, .inr ⟨g, cap, _, by simp, hb, hh, by simp; omega, hm, by rw [size_putCells, hsz], ?_⟩⟩
  apply List.ext_getElem?
  intro j
  by_cases hj : j < d'.size * 2
  · rw [List.getElem?_take_of_lt (by simpa using hj)]
    have h1 := (hH2 j (by simpa using hj)).1
    simp only [World.cell?, hh, Nat.zero_add] at h1
    rw [get_flatK _ _ _ _ hj] at h1
    have h2 := flat_get d'.toList j (by simpa using hj)
    have he : d'.toList[j / 2]! = d'[j / 2]! := by
      rw [getElem!_pos d' (j / 2) (by omega), getElem!_pos d'.toList (j / 2) (by simp; omega)]; simp
    rw [he] at h2
    have h3 : (putCells id 0 (flatK encKey 2 d') cur)[j]? = some (encKey d'[j / 2]!)[j % 2]! := h1
    rw [Array.getElem?_toList, h3]
    exact h2.symm
  · rw [List.getElem?_eq_none (by rw [List.length_take]; simp; omega), List.getElem?_eq_none (by rw [cellsL_length]; simp; omega)]

set_option maxHeartbeats 800000 in
theorem zsort_any (b off c : Nat) (d : List (ByteArray × ByteArray)) (w : World) (hk : KeysAt w b off d) (hbytes : d.length * 32 ≤ 140737488355328) :
    Calls Tryz.prog 90 #[.slice (some ⟨b, off, none⟩) d.length c] w fun e w' =>
      ∃ v r, e = .returned v ∧ Rises r ∧ (∀ x, x ∈ r ↔ x ∈ d) ∧ r.length ≤ d.length ∧ Own w' w.heap.size v r ∧ v ≠ .slice none 0 0 ∧ Below w.heap.size w w' := by
  have hnews : ∀ j u, (cellsL d)[j]? = some u → w.cell? ⟨b, off + j, none⟩ = some u := by
    intro j u hu
    have hj : j < d.length * 2 := by
      rw [← cellsL_length]
      rcases Nat.lt_or_ge j (cellsL d).length with h | h
      · exact h
      · rw [List.getElem?_eq_none h] at hu; cases hu
    obtain ⟨h1, h2⟩ := hk (j / 2) (by omega)
    obtain ⟨e1, e2⟩ := cellsL_get d (j / 2) (by omega)
    rcases Nat.mod_two_eq_zero_or_one j with hm | hm
    · have ej : j / 2 * 2 = j := by omega
      rw [ej] at h1 e1
      rw [e1] at hu
      rw [h1, ← hu]
    · have ej : j / 2 * 2 + 1 = j := by omega
      rw [Nat.add_assoc, ej] at h2
      rw [ej] at e2
      rw [e2] at hu
      rw [h2, ← hu]
  have hcl := zclone_any b off d.length c (cellsL d) w (cellsL_length d) (by unfold maxLen; omega) hbytes hnews (cellsL_one d)
  have H := hid hcl
  clear hnews hk hcl
  go_enter Tryz.func90, Tryz.ntmps90
  go_wp2_with fail
  refine H.out.mono ?_
  rintro e w1 ⟨v', rfl, ⟨hl, hor⟩, hne, hq1⟩
  rcases hor with ⟨h1, h2⟩ | ⟨g1, cap, cur, rfl, hbase, hheap, hcap, hcapm, hsz, htake⟩
  · exact absurd h1 hne
  have hg1 : g1 < w1.heap.size := by
    rcases Nat.lt_or_ge g1 w1.heap.size with h | h
    · exact h
    · rw [Array.getElem?_eq_none h] at hheap; cases hheap
  have hH : HoldsK encKey 2 w1 g1 0 d.toArray := holds_of_heap d.toArray hheap (by simpa [cellsK, cellsL] using htake)
  have hcon := zsortfunc_any g1 0 cap d.toArray w1 hH hg1 (by simp; omega)
  rw [show d.toArray.size = d.length by simp] at hcon
  have HC := hid hcon
  have HH := hid (And.intro hH (And.intro hheap hsz))
  clear hcon hH hl hne hheap htake hsz
  go_wp2_with fail
  refine HC.out.mono ?_
  rintro e w2 ⟨rfl, d', n, os, hperm, hsorted, hw2⟩
  obtain ⟨hr, hmem, hds⟩ := sorted_compact d d' hperm hsorted
  have ho2 : Own w2 w.heap.size (.slice (some ⟨g1, 0, none⟩) d'.size cap) d'.toList := by
    rw [hw2]
    exact zown_sorted d.toArray d' hbase hg1 HH.out.2.1 (by simpa using hcap) hcapm HH.out.2.2 HH.out.1 (by simpa using hds)
  have hq2 : Below w.heap.size w w2 := by
    rw [hw2]; exact below_sortWorld hq1 hq1.size g1 0 n _ os hbase
  have hcomp := zcompact_own g1 cap w.heap.size d'.toList w2 (by rw [Array.length_toList]; exact ho2) (by rw [Array.length_toList]; omega) hcapm
  rw [Array.length_toList, hds] at hcomp
  have HCC := hid hcomp
  have HR := hid (And.intro hr hmem)
  have hlen : (compact d'.toList).length ≤ d.length := by
    have h5 : (compact d'.toList).length ≤ d'.size := by
      unfold compact compactUpTo
      rw [List.length_map]
      exact Nat.le_trans (List.length_filter_le _ _) (by simp)
    exact Nat.le_trans h5 (Nat.le_of_eq hds)
  have HLEN := hid hlen
  clear hw2 hperm hsorted hcomp hr hmem ho2 hlen hds
  go_wp2_with fail
  refine HCC.out.mono ?_
  rintro e w3 ⟨rfl, ho3, hq3⟩
  go_wp2_with fail
  go_ret
  exact ⟨_, _, rfl, HR.out.1, HR.out.2, HLEN.out, ho3, by simp, hq2.trans (hq3.mono hbase)⟩

end Go.Proofs.YticfpkodoghnnaaGreat.Z

/-
  The contract of Sort of package name.
-/
namespace Go.Proofs.YticfpkodoghnnaaGreat
open Go.RowKit

theorem z_own {n0 : Nat} {w : World} {v : Value} {d : List Ky} : Z.Own w n0 v d ↔ KK.Own n0 w v d := Iff.rfl
theorem z_at {w : World} {b off : Nat} {d : List Ky} (h : KK.At w b off d) : Z.KeysAt w b off d := fun i hi => kk_at h i hi

theorem z_lt (x y : Ky) : Z.ahead x y ↔ ltKy x y = true := by
  unfold Z.ahead Z.cmpK Z.cmpI Z.orI
  rw [ltKy_true]
  unfold ltB
  rw [decide_eq_true_iff, decide_eq_true_iff]
  by_cases h : Lib.compareBytes x.1.data.toList y.1.data.toList = 0
  · rw [if_pos h]
    have e : x.1 = y.1 := ba_eq ((cb_zero _ _).1 h)
    constructor
    · intro k; exact Or.inr ⟨e, k⟩
    · rintro (k | ⟨_, k⟩)
      · omega
      · exact k
  · rw [if_neg h]
    constructor
    · intro k; exact Or.inl k
    · rintro (k | ⟨e, _⟩)
      · exact k
      · rw [e, cb_self] at h; exact absurd rfl h

theorem z_rises {r : List Ky} (h : Z.Rises r) : RisingR ltKy r := h.imp fun {x y} hxy => (z_lt x y).1 hxy
theorem z_rises' {r : List Ky} (h : RisingR ltKy r) : Z.Rises r := h.imp fun {x y} hxy => (z_lt x y).2 hxy

/-- The keys, rising, each once. -/
def sortK (ks : List Ky) : List Ky := ks.foldl (fun acc x => insR ltKy x acc) []
theorem sortK_spec (ks : List Ky) : RisingR ltKy (sortK ks) ∧ ∀ z, z ∈ sortK ks ↔ z ∈ ks := by
  have : ∀ (l acc : List Ky), RisingR ltKy acc → RisingR ltKy (l.foldl (fun acc x => insR ltKy x acc) acc) ∧ ∀ z, z ∈ l.foldl (fun acc x => insR ltKy x acc) acc ↔ z ∈ acc ∨ z ∈ l := by
    intro l
    induction l with
    | nil => intro acc h; exact ⟨h, fun z => by simp⟩
    | cons y l ih =>
      intro acc h
      obtain ⟨h1, h2⟩ := ih (insR ltKy y acc) (rising_insR totK y h)
      refine ⟨h1, fun z => ?_⟩
      rw [List.foldl_cons, h2, mem_insR, List.mem_cons]
      constructor
      · rintro ((h | h) | h)
        · exact Or.inr (Or.inl h)
        · exact Or.inl h
        · exact Or.inr (Or.inr h)
      · rintro (h | h | h)
        · exact Or.inl (Or.inr h)
        · exact Or.inl (Or.inl h)
        · exact Or.inr h
  obtain ⟨h1, h2⟩ := this ks [] List.Pairwise.nil
  exact ⟨h1, fun z => by rw [sortK, h2]; simp⟩

set_option maxHeartbeats 1000000 in
theorem sortfunc_nil (W : World) : Calls Tryz.prog 112 #[.slice none 0 0, .func (.func 99) #[] #[]] W fun e w' => e = .returned (.tuple #[]) ∧ w' = W := by
  have hi : ∀ W, Calls Tryz.prog 155 #[.slice none 0 0, .int .i64 0, .int .i64 0, .func (.func 99) #[] #[]] W fun e w' => e = .returned (.tuple #[]) ∧ w' = W := fun W => by
    go_enter Tryz.func155, Tryz.ntmps155
    go_wp2_with fail
    refine wp_loop_rounds 1 ?_
    rw [rounds_succ]
    go_wp2_with fail
    go_end0
    exact ⟨rfl, rfl⟩
  have HI := hid hi
  clear hi
  have hp : ∀ (l : Int) W, Calls Tryz.prog 140 #[.slice none 0 0, .int .i64 0, .int .i64 0, .int .i64 l, .func (.func 99) #[] #[]] W fun e w' => e = .returned (.tuple #[]) ∧ w' = W := fun l W => by
    go_enter Tryz.func140, Tryz.ntmps140
    go_wp2_with fail
    refine wp_loop_rounds 1 ?_
    rw [rounds_succ]
    go_wp2_with (first | (go_at_call 155; refine (HI.out _).mono ?_; rintro e w1 ⟨rfl, rfl⟩))
    refine bodyPost_ret (results_none (h := Tryz.results140) _ _ _) rfl ?_
    exact ⟨rfl, rfl⟩
  have HP := hid hp
  clear hp
  go_enter Tryz.func112, Tryz.ntmps112
  go_wp2_with (first | (go_at_call 96; refine (Tryz.bits_Len 0 _ (by omega) (by omega)).mono ?_; rintro e w1 ⟨rfl, rfl⟩) | (go_at_call 140; refine (HP.out _ _).mono ?_; rintro e w1 ⟨rfl, rfl⟩))
  go_end0
  exact ⟨rfl, rfl⟩

set_option maxHeartbeats 1000000 in
theorem nsort_nil (w : World) : Calls Tryz.prog 90 #[.slice none 0 0] w fun e w' => e = .returned (.slice none 0 0) ∧ w' = w := by
  have q22 : ∀ (w : World) (a : Option Addr) (n c n' c' : Nat), (binOp .eql 118 (.slice a n c) (.slice none n' c')).run Tryz.prog w = .ok (.bool a.isNone) w := fun w a n c n' c' => Lib.run_eql_slice_nil w _ _ a n c n' c' Tryz.underlying118
  have hclone : ∀ W, Calls Tryz.prog 111 #[.slice none 0 0] W fun e w' => e = .returned (.slice none 0 0) ∧ w' = W := fun W => by
    go_enter Tryz.func111, Tryz.ntmps111
    go_wp2_with fail
    go_ret
    exact ⟨rfl, rfl⟩
  have HC := hid hclone
  clear hclone
  have hs : ∀ W, Calls Tryz.prog 112 #[.slice none 0 0, .func (.func 99) #[] #[]] W fun e w' => e = .returned (.tuple #[]) ∧ w' = W := fun W => sortfunc_nil W
  have HS := hid hs
  clear hs
  have hk : ∀ W, Calls Tryz.prog 113 #[.slice none 0 0] W fun e w' => e = .returned (.slice none 0 0) ∧ w' = W := fun W => by
    go_enter Tryz.func113, Tryz.ntmps113
    go_wp2_with fail
    go_ret
    exact ⟨rfl, rfl⟩
  have HK := hid hk
  clear hk
  go_enter Tryz.func90, Tryz.ntmps90
  go_wp2_with (first
    | (go_at_call 111; refine (HC.out _).mono ?_; rintro e w1 ⟨rfl, rfl⟩)
    | (go_at_call 112; refine (HS.out _).mono ?_; rintro e w1 ⟨rfl, rfl⟩)
    | (go_at_call 113; refine (HK.out _).mono ?_; rintro e w1 ⟨rfl, rfl⟩))
  go_ret
  exact ⟨rfl, rfl⟩

theorem nsort_own (n0 : Nat) (v : Value) (ks : List Ky) (w : World) (h : KK.Own n0 w v ks) (hl : ks.length ≤ 4398046511104) :
    Calls Tryz.prog 90 #[v] w fun e w' => ∃ u, e = .returned u ∧ KK.Own w.heap.size w' u (sortK ks) ∧ Below w.heap.size w w' := by
  rcases h.2 with ⟨rfl, hz⟩ | ⟨g, cap, cur, rfl, _⟩
  · obtain rfl := List.length_eq_zero_iff.1 hz
    refine (nsort_nil w).mono ?_
    rintro e w' ⟨rfl, rfl⟩
    exact ⟨_, rfl, KK.own_nil _ _, Below.refl _ _⟩
  · refine (Z.zsort_any g 0 cap ks w (z_at (Kind.own_at h)) (by omega)).mono ?_
    rintro e w' ⟨u, r, rfl, hr, hm, _, ho, _, hb⟩
    refine ⟨u, rfl, ?_, hb⟩
    have : r = sortK ks := rising_uniqR totK (z_rises hr) (sortK_spec ks).1 fun z => (hm z).trans ((sortK_spec ks).2 z).symm
    rw [← this]
    exact ho

end Go.Proofs.YticfpkodoghnnaaGreat

/-
  Keys of a directory (stage 7): those of a type, sorted.
-/
namespace Go.Proofs.YticfpkodoghnnaaGreat
open Go.RowKit

theorem Tryz.infoKz : (Tryz.prog.info? 31).map (fun i => (i.zero, i.size, i.bytes)) = some (some (.agg #[.string ⟨#[]⟩, .string ⟨#[]⟩]), 2, 32) := by kernel_rfl

theorem txt_ne {a b : ByteArray} (h : a ≠ b) : (a.toList == b.toList) = false := by
  have := Z.eqK_iff (a, a) (b, a)
  unfold Z.eqK at this
  rw [decide_eq_false (by intro e; injection e with e _; exact h e)] at this
  simpa using this

def ofT (typ : ByteArray) (l : List Ky) : List Ky := l.filter fun k => decide (k.1 = typ)

/-- The keys of a type that have come, sorted, are the directory's. -/
theorem keys_done {G : Ky → Cm} {D : List RowD} (h : OkD D) (hf : ∀ k, ofD D k ≠ [] → FitK k) {seen : List Ky} (h1 : ∀ k ∈ seen, FitK k ∧ (fOf G D k).isSome = true) (h2 : ∀ k, FitK k → (fOf G D k).isSome = true → k ∈ seen) (typ : ByteArray) : sortK (ofT typ seen) = keysD D typ := by
  refine rising_uniqR totK (sortK_spec _).1 (h.rise.sublist (List.filter_sublist)) fun z => ?_
  rw [(sortK_spec _).2]
  unfold ofT keysD
  rw [List.mem_filter, List.mem_filter]
  refine and_congr ⟨fun hz => (there_iff h z).2 (fOf_iff.1 (h1 z hz).2), fun hz => ?_⟩ Iff.rfl
  have := (there_iff h z).1 hz
  exact h2 z (hf z this) (fOf_iff.2 this)

theorem ofT_snoc (typ : ByteArray) (l : List Ky) (k : Ky) : ofT typ (l ++ [k]) = ofT typ l ++ (if k.1 = typ then [k] else []) := by
  unfold ofT
  rw [List.filter_append]
  congr 1
  by_cases e : k.1 = typ
  · rw [if_pos e]; simp [e]
  · rw [if_neg e]; simp [e]

/-- A row stays where only an iterator's block has turned. -/
theorem own_iter {α : Type} {K : Kind α} {N r : Nat} {w w2 : World} {v : Value} {d : List α} {x : Option Nat} {s : Nat} {a : Array Nat} {c : Nat} (h : K.Own N w v d) (hi : w.heap[r]? = some (.mapIter x s a c)) (f : Fr (fun b => b = r) w w2) : K.Own N w2 v d := by
  refine f.row h fun k hk e => ?_
  obtain ⟨cs, hc⟩ := own_type h hk
  rw [e, hi] at hc
  cases hc

/-- What a range that collects has between two rounds. -/
structure KyIn (W : World) (m n : Nat) (f : Ky → Option Nat) (N : Nat) (typ : ByteArray) (seen : List Ky) (cnt : Nat) (v : Value) (wr : World) : Prop where
  rng : RangeD wr m N n f seen cnt
  bel : Below N W wr
  own : KK.Own N wr v (ofT typ seen)

theorem KyIn.next {W : World} {m n : Nat} {f : Ky → Option Nat} {N : Nat} {typ : ByteArray} {seen : List Ky} {cnt cnt2 : Nat} {v : Value} {wr w2 : World} (h : KyIn W m n f N typ seen cnt v wr) (_hN : W.heap.size = N) {k : Ky} (hr2 : RangeD w2 m N n f (seen ++ [k]) cnt2) (hg2 : wr.grownBy w2 (some N)) (u v' : Value) (t : TypeId) :
    RangeD (w2.alloc (.cells #[u, v'] t)) m N n f (seen ++ [k]) cnt2 ∧ Below N W (w2.alloc (.cells #[u, v'] t)) ∧ KK.Own N (w2.alloc (.cells #[u, v'] t)) v (ofT typ seen) := by
  obtain ⟨si, sn, sc, hit⟩ := h.rng.iter
  have f2 : Fr (fun x => x = N) wr w2 := Fr.of_grown hg2 fun x hx => by injection hx with hx; exact hx.symm
  have ha : Below w2.heap.size w2 (w2.alloc (.cells #[u, v'] t)) := (Below.refl _ _).alloc (Nat.le_refl _) _
  refine ⟨hr2.on (ha.block _ hr2.map.lt) (ha.block _ hr2.lt), ?_, Kind.own_on (own_iter h.own hit f2) ha⟩
  have hb2 : Below N W w2 := h.bel.trans (f2.below (by have := h.rng.lt; omega) fun x hx => by omega)
  exact bel_then hb2 (by have := hr2.lt; omega) ha

theorem KyIn.grow {W : World} {m n : Nat} {f : Ky → Option Nat} {N : Nat} {typ : ByteArray} {seen : List Ky} {cnt : Nat} {v v' : Value} {wr w4 : World} {k : Ky} {l : List Ky} (hr : RangeD wr m N n f (seen ++ [k]) cnt) (hb : Below N W wr) (ho : KK.Own N wr v l) (hg : wr.grownBy w4 v.ownBlock) (ho4 : KK.Own N w4 v' (ofT typ (seen ++ [k]))) : KyIn W m n f N typ (seen ++ [k]) cnt v' w4 := by
  obtain ⟨si, sn, sc, hit⟩ := hr.iter
  obtain ⟨es, cl, hm⟩ := hr.map.obj
  have hne : ∀ {b : Nat}, v.ownBlock = some b → N ≤ b ∧ b ≠ N ∧ b ≠ m := fun {b} hbk => by
    obtain ⟨cs, hc⟩ := own_type ho hbk
    refine ⟨(World.ownsRow.lt ho b hbk).1, fun e => ?_, fun e => ?_⟩
    · rw [e, hit] at hc; cases hc
    · rw [e, hm] at hc; cases hc
  refine ⟨hr.on (hg.block m hr.map.lt fun e => (hne e.symm).2.2 rfl) (hg.block N hr.lt fun e => (hne e.symm).2.1 rfl), ?_, ho4⟩
  exact hb.trans ((Fr.of_grown (P := fun b => v.ownBlock = some b) hg fun b hb => hb).below (by have := hr.lt; omega) fun b hb => (hne hb).1)

set_option maxHeartbeats 4000000 in
set_option maxRecDepth 100000 in
theorem dkeys_any {n0 : Nat} {W : World} {g m n : Nat} {G : Ky → Cm} {D : List RowD} (h : DirM n0 W g m n G D) (hn : n ≤ 2400000000000) (typ : ByteArray) :
    Calls Tryz.prog 64 #[.pointer (some ⟨g, 0, none⟩), .string typ] W fun e w' => ∃ u, e = .returned u ∧ KK.Own W.heap.size w' u (keysD D typ) ∧ Below W.heap.size W w' := by
  obtain ⟨i0, hi0, hz0, hz1, hz2⟩ := info_parts Tryz.infoKz
  have HI := hid hi0
  have HAL := hid (all_is g m W h.cell)
  have hM := h.map
  have HH := hid h
  have HEND : Hid (∀ seen : List Ky, (∀ k ∈ seen, FitK k ∧ (fOf G D k).isSome = true) → (∀ k, FitK k → (fOf G D k).isSome = true → k ∈ seen) → sortK (ofT typ seen) = keysD D typ) := fun seen h1 h2 =>
    keys_done HH.out.ok (fun k hk => key_fit (HH.out.key k hk)) h1 h2 typ
  obtain ⟨N, hN⟩ : ∃ N, W.heap.size = N := ⟨_, rfl⟩
  clear h hi0
  go_enter Tryz.func64, Tryz.ntmps64
  go_wp2_with fail
  refine HAL.out.mono ?_
  rintro e w0 ⟨rfl, rfl⟩
  go_wp2_with (at_range; refine wp_range_D _ rfl _ rfl m n (fOf G D) rfl hM ?_; intro w1 cnt0 hr0 hg0 hs0)
  go_frame
  try rw [hN] at hr0
  try rw [hN]
  have HR0 : Hid (KyIn w0 m n (fOf G D) N typ [] cnt0 (.slice none 0 0) w1) := by
    have := Fr.of_grown (P := fun _ => False) hg0 fun k hk => by cases hk
    exact ⟨hr0, this.below (by omega) fun k hk => hk.elim, KK.own_nil _ _⟩
  clear hr0 hg0 hs0 HAL hM
  go_loopg [5] cnt0 (fun gg vs wr => ∃ (seen : List Ky) (cnt : Nat), cnt ≤ gg ∧ Hid (KyIn w0 m n (fOf G D) N typ seen cnt vs wr))
  case atStart => exact ⟨[], cnt0, Nat.le_refl _, HR0.out⟩
  case round =>
    clear HR0
    obtain ⟨seen, cnt, hgk, HR⟩ := hrel
    have hr := HR.out.rng
    have hnd := hr.nodup
    have hlen : (ofT typ seen).length ≤ 2400000000000 := by
      have h1 : (ofT typ seen).length ≤ seen.length := List.length_filter_le _ _
      have h2 := hnd.2.2
      omega
    go_wp2_with (at_next; refine wp_next_D _ rfl _ rfl m N n (fOf G D) seen cnt rfl hr ?_ ?_)
    · intro hall
      have HE := hid (HEND.out seen hnd.2.1 fun k h1 h2 => hall k.1 k.2 h1 h2)
      have HNS := hid (nsort_own N _ (ofT typ seen) wr HR.out.own (by omega))
      have HB := hid HR.out.bel
      have hNw : N ≤ wr.heap.size := by have := hr.lt; omega
      rw [HE.out] at HNS
      clear hall hr hnd
      go_wp2_with fail
      refine HNS.out.mono ?_
      rintro e w2 ⟨u, rfl, ho2, hb2⟩
      have HO2 := hid ho2
      have HB2 := hid (bel_then HB.out hNw hb2)
      obtain ⟨q, c, rfl⟩ := Kind.own_shape ho2
      clear ho2 hb2
      go_wp2_with fail
      go_ret
      rw [hN]
      exact ⟨_, rfl, Kind.own_weak HO2.out hNw, HB2.out⟩
    · intro ka kb b w2 cnt2 hkf hks hfb hr2 hlt hg2 hs2 hen
      obtain ⟨a1, a2, a3⟩ := HR.out.next hN hr2 hg2 (.string ka) (.string kb) 31
      have HA1 := hid a1
      have HA2 := hid a2
      have HA3 := hid a3
      have HSN := hid (ofT_snoc typ seen (ka, kb))
      have hs0 : w0.heap.size ≤ w2.heap.size := by have := hr2.lt; omega
      simp only [valK, mkP, Option.map_some] at hen ⊢
      obtain ⟨p, c, rfl⟩ := Kind.own_shape HR.out.own
      clear hr hr2 hnd hg2 hfb hkf hks a1 a2 a3 hs2
      by_cases ht : ka = typ
      · subst ht
        rw [if_pos rfl] at HSN
        go_wp2_with (first
          | (at_builtin; refine wpList_append_own _ rfl _ _ 118 rfl N 31 i0 (.agg #[.string ⟨#[]⟩, .string ⟨#[]⟩]) 2 32 Tryz.underlying118 HI.out hz0 hz1 hz2 rfl (by decide) _ _ _ rfl (World.ownsRow.alloc HA3.out _) _ 1 1 [.string ka, .string kb] rfl rfl (fun j u hj => KK.newsN (w2.alloc (.cells #[.string ka, .string kb] 31)) (ka, kb) _ (by simp) j u hj) (by intro u hu; simp at hu; rcases hu with rfl | rfl <;> rfl) (by unfold maxLen; omega) (by omega) (by simp; omega) ?_; intro v4 w4 hown4 hg4 hnil4; have HO4 := hid hown4; have HG4 := hid hg4; clear hown4 hg4 hnil4))
        go_roundg cnt2
        case measure => omega
        refine ⟨seen ++ [(ka, kb)], cnt2, Nat.le_refl _, ?_⟩
        have hb5 : Below (w2.alloc (.cells #[.string ka, .string kb] 31)).heap.size (w2.alloc (.cells #[.string ka, .string kb] 31)) ((w2.alloc (.cells #[.string ka, .string kb] 31)).alloc (.cells #[.string ka, .string kb] 31)) := (Below.refl _ _).alloc (Nat.le_refl _) _
        refine KyIn.grow (HA1.out.on (hb5.block _ HA1.out.map.lt) (hb5.block _ HA1.out.lt)) (bel_then HA2.out (by have := HA1.out.lt; omega) hb5) (Kind.own_on HA3.out hb5) HG4.out ?_
        rw [HSN.out]
        exact Kind.own_snoc HO4.out rfl rfl
      · have hbf := txt_ne ht
        rw [if_neg ht, List.append_nil] at HSN
        go_wp2_with fail
        go_roundg cnt2
        case measure => omega
        exact ⟨seen ++ [(ka, kb)], cnt2, Nat.le_refl _, HA1.out, HA2.out, by rw [HSN.out]; exact HA3.out⟩

end Go.Proofs.YticfpkodoghnnaaGreat

/-
  Finds in memory (stage 7), and the reference's SameFound.
-/
namespace Go.Proofs.YticfpkodoghnnaaGreat
open Go.RowKit

/-- A find as it lies in memory: its key, and its version. -/
structure Fd where
  a : ByteArray
  b : ByteArray
  v : Vx
  deriving Inhabited

/-- A find by what it says. -/
abbrev Fnd := (ByteArray × ByteArray) × Vr

def Fd.fnd (x : Fd) : Fnd := ((x.a, x.b), x.v.ver)
def encFd (x : Fd) : List Value := .string x.a :: .string x.b :: encVx x.v
def KFd : Kind Fd := ⟨70, 7, encFd, fun _ => rfl, by decide, fun x u hu => by simp [encFd, encVx, Vx.sl] at hu; rcases hu with rfl | rfl | rfl | rfl | rfl | rfl | rfl <;> rfl⟩

/-- The cells of a find, from o on in block b. -/
def CellsF (w : World) (b o : Nat) (x : Fd) : Prop := w.cell? ⟨b, o, none⟩ = some (.string x.a) ∧ w.cell? ⟨b, o + 1, none⟩ = some (.string x.b) ∧ CellsV w b (o + 2) x.v

theorem kfd_at {w : World} {b off : Nat} {d : List Fd} (h : KFd.At w b off d) (i : Nat) (hi : i < d.length) : CellsF w b (off + i * 7) d[i] :=
  ⟨h i hi 0 _ rfl, h i hi 1 _ rfl, h i hi 2 _ rfl, h i hi 3 _ rfl, h i hi 4 _ rfl, h i hi 5 _ rfl, h i hi 6 _ rfl⟩

set_option maxHeartbeats 2000000 in
set_option maxRecDepth 100000 in
theorem sameFd_any (v u : Value) (d e : List Fd) (w : World) (hv : KFd.Is w v d) (hu : KFd.Is w u e) (ha : ∀ x ∈ d, x.v.at w ∧ FitX x.v.o) (hb : ∀ x ∈ e, x.v.at w ∧ FitX x.v.o) (hl : d.length ≤ maxLen) :
    Calls Tryz.prog 16 #[v, u] w fun r w' => r = .returned (.bool (decide (d.map Fd.fnd = e.map Fd.fnd))) ∧ Below w.heap.size w w' := by
  obtain ⟨p, cap, rfl, hd⟩ := hv
  obtain ⟨q, cap', rfl, he⟩ := hu
  unfold maxLen at hl
  have HD := hid hd
  have HE := hid he
  have HA := hid ha
  have HB := hid hb
  obtain ⟨r, hr⟩ : ∃ r, decide (d.map Fd.fnd = e.map Fd.fnd) = r := ⟨_, rfl⟩
  rw [hr]
  have HR := hid hr
  clear hr hd he ha hb
  by_cases hle : d.length = e.length
  · have hbn : ((d.length : Int) != (e.length : Int)) = false := by simp [hle]
    have HL := hid hle
    clear hle
    go_enter Tryz.func16, Tryz.ntmps16
    go_wp2_with fail
    go_loopg [5] d.length (fun g vi wr => ∃ i : Nat, vi = .int .i64 i ∧ i ≤ d.length ∧ d.length - i ≤ g ∧ Hid (Below w.heap.size w wr) ∧ Hid (∀ j, j < i → (d.map Fd.fnd)[j]? = (e.map Fd.fnd)[j]?))
    case atStart => exact ⟨0, rfl, by omega, by omega, Below.refl _ _, fun j h => by omega⟩
    case round =>
      obtain ⟨i, rfl, hi, hgk, HW, HJ⟩ := hrel
      by_cases hlt : i < d.length
      · have hlt2 : i < e.length := by rw [← HL.out]; exact hlt
        have i1 : (0 : Int) ≤ ↑i := by omega
        have i2 : (↑i : Int) < ↑d.length := by omega
        have i3 : (↑i : Int) < ↑e.length := by omega
        obtain ⟨b1, o1, rfl, k1⟩ : ∃ b off, p = some ⟨b, off, none⟩ ∧ KFd.At w b off d := by
          rcases HD.out with h | h
          · rw [h] at hlt; simp at hlt
          · exact h
        obtain ⟨b2, o2, rfl, k2⟩ : ∃ b off, q = some ⟨b, off, none⟩ ∧ KFd.At w b off e := by
          rcases HE.out with h | h
          · rw [h] at hlt2; simp at hlt2
          · exact h
        have hc1 : ∀ W, Below w.heap.size w W → CellsF W b1 (o1 + i * 7) d[i] := fun W hW => kfd_at (Kind.at_kept k1 hW) i hlt
        have hc2 : ∀ W, Below w.heap.size w W → CellsF W b2 (o2 + i * 7) e[i] := fun W hW => kfd_at (Kind.at_kept k2 hW) i hlt2
        have g1 : (d.map Fd.fnd)[i]? = some (d[i]).fnd := by rw [List.getElem?_map, List.getElem?_eq_getElem hlt]; rfl
        have g2 : (e.map Fd.fnd)[i]? = some (e[i]).fnd := by rw [List.getElem?_map, List.getElem?_eq_getElem hlt2]; rfl
        have f1 := HA.out _ (List.getElem_mem hlt)
        have f2 := HB.out _ (List.getElem_mem hlt2)
        obtain ⟨x, hx⟩ : ∃ x, d[i] = x := ⟨_, rfl⟩
        obtain ⟨y, hy⟩ : ∃ y, e[i] = y := ⟨_, rfl⟩
        rw [hx] at hc1 g1 f1
        rw [hy] at hc2 g2 f2
        have HC : Hid (∀ W, Below w.heap.size w W → Calls Tryz.prog 12 #[.agg (encVx x.v).toArray, .agg (encVx y.v).toArray] W fun e w' => e = .returned (.bool (decide (x.v.ver = y.v.ver))) ∧ Below W.heap.size W w') := fun W hW => sameV_any x.v y.v W (f1.1.kept hW) (f2.1.kept hW) f1.2 f2.2
        have G1 := hid g1
        have G2 := hid g2
        have HS : Hid (∀ W, Below w.heap.size w W → CellsF W b1 (o1 + i * 7) x ∧ CellsF W b2 (o2 + i * 7) y) := fun W hW => ⟨hc1 W hW, hc2 W hW⟩
        have HWD : Hid (Below w.heap.size w wr.drew) := HW.out.drew
        have hne := fun W => Z.neq_key x.a x.b y.a y.b W
        have heq := Z.eqK_iff (x.a, x.b) (y.a, y.b)
        simp only at heq
        rw [heq] at hne
        obtain ⟨Q, hQ⟩ : ∃ Q, decide (x.v.ver = y.v.ver) = Q := ⟨_, rfl⟩
        have HQ := hid hQ
        rw [hQ] at HC
        have HXY : Hid (x.fnd = y.fnd ↔ (x.a, x.b) = (y.a, y.b) ∧ x.v.ver = y.v.ver) := by
          show _ ↔ _
          simp [Fd.fnd]
        clear hc1 hc2 k1 k2 g1 g2 f1 f2 hx hy hQ heq
        go_upto_region 6 with fail
        go_cut [41] from 15 to 41 (fun c wx => c = .bool (!decide (x.fnd = y.fnd)) ∧ Hid (Below w.heap.size w wx))
        case first =>
          by_cases hk : (x.a, x.b) = (y.a, y.b)
          · rw [decide_eq_true hk] at hne
            have HE1 : Hid (decide (x.fnd = y.fnd) = Q) := by
              show _ = _
              rw [← HQ.out, decide_eq_decide, HXY.out]
              exact ⟨fun h => h.2, fun h => ⟨hk, h⟩⟩
            obtain ⟨xa, xb, ⟨xn, xs, xt, xl, xp, xc, xo⟩⟩ := x
            obtain ⟨ya, yb, ⟨yn, ys, yt, yl, yp, yc, yo⟩⟩ := y
            simp only [CellsF, CellsV, Vx.sl, encVx] at HS HC
            clear hk HXY HQ G1 G2 HJ
            refine wp_region_held_drew (S := fun w' => (w'.cell? ⟨b1, o1 + i * 7, none⟩ = some (.string xa) ∧ w'.cell? ⟨b1, o1 + i * 7 + 1, none⟩ = some (.string xb) ∧ w'.cell? ⟨b1, o1 + i * 7 + 2, none⟩ = some (.int .i64 xn) ∧ w'.cell? ⟨b1, o1 + i * 7 + 2 + 1, none⟩ = some (.int .u64 xs) ∧ w'.cell? ⟨b1, o1 + i * 7 + 2 + 2, none⟩ = some (.int .i64 xt) ∧ w'.cell? ⟨b1, o1 + i * 7 + 2 + 3, none⟩ = some (.bool xl) ∧ w'.cell? ⟨b1, o1 + i * 7 + 2 + 4, none⟩ = some (.slice xp xo.length xc)) ∧ w'.cell? ⟨b2, o2 + i * 7, none⟩ = some (.string ya) ∧ w'.cell? ⟨b2, o2 + i * 7 + 1, none⟩ = some (.string yb) ∧ w'.cell? ⟨b2, o2 + i * 7 + 2, none⟩ = some (.int .i64 yn) ∧ w'.cell? ⟨b2, o2 + i * 7 + 2 + 1, none⟩ = some (.int .u64 ys) ∧ w'.cell? ⟨b2, o2 + i * 7 + 2 + 2, none⟩ = some (.int .i64 yt) ∧ w'.cell? ⟨b2, o2 + i * 7 + 2 + 3, none⟩ = some (.bool yl) ∧ w'.cell? ⟨b2, o2 + i * 7 + 2 + 4, none⟩ = some (.slice yp yo.length yc)) (by kernel_rfl) (by have := HS.out _ HWD.out; simpa only [and_assoc] using this) (fun hHeld => ?_)
            refine take_val (i := 0) (.slice (some ⟨b1, o1, none⟩) d.length cap) rfl (by kernel_rfl) (by kernel_rfl) (by kernel_rfl) (fun _ _ _ h => h) (by rfl) (fun w hSw => by go_simp) hHeld ?_
            simp only [Act.put, List.setIfInBounds_toArray, List.set_cons_zero, List.set_cons_succ]
            refine take_val (i := 1) (.int .i64 i) rfl (by kernel_rfl) (by kernel_rfl) (by kernel_rfl) (fun _ _ _ h => h) (by rfl) (fun w hSw => by go_simp) hHeld ?_
            simp only [Act.put, List.setIfInBounds_toArray, List.set_cons_zero, List.set_cons_succ]
            refine take_val (i := 2) (.pointer (some ⟨b1, o1 + i * 7, none⟩)) rfl (by kernel_rfl) (by kernel_rfl) (by kernel_rfl) (fun _ _ _ h => h) (by rfl) (fun w hSw => by go_simp) hHeld ?_
            simp only [Act.put, List.setIfInBounds_toArray, List.set_cons_zero, List.set_cons_succ]
            refine take_val (i := 3) (.pointer (some ⟨b1, o1 + i * 7, none⟩)) rfl (by kernel_rfl) (by kernel_rfl) (by kernel_rfl) (fun _ _ _ h => h) (by rfl) (fun w hSw => by go_simp) hHeld ?_
            simp only [Act.put, List.setIfInBounds_toArray, List.set_cons_zero, List.set_cons_succ]
            refine take_val (i := 4) (.agg #[.string xa, .string xb]) rfl (by kernel_rfl) (by kernel_rfl) (by kernel_rfl) (fun _ _ _ h => h) (by rfl) (fun w hSw => by go_simp) hHeld ?_
            simp only [Act.put, List.setIfInBounds_toArray, List.set_cons_zero, List.set_cons_succ]
            refine take_val (i := 5) (.slice (some ⟨b2, o2, none⟩) e.length cap') rfl (by kernel_rfl) (by kernel_rfl) (by kernel_rfl) (fun _ _ _ h => h) (by rfl) (fun w hSw => by go_simp) hHeld ?_
            simp only [Act.put, List.setIfInBounds_toArray, List.set_cons_zero, List.set_cons_succ]
            refine take_val (i := 6) (.int .i64 i) rfl (by kernel_rfl) (by kernel_rfl) (by kernel_rfl) (fun _ _ _ h => h) (by rfl) (fun w hSw => by go_simp) hHeld ?_
            simp only [Act.put, List.setIfInBounds_toArray, List.set_cons_zero, List.set_cons_succ]
            refine take_val (i := 7) (.pointer (some ⟨b2, o2 + i * 7, none⟩)) rfl (by kernel_rfl) (by kernel_rfl) (by kernel_rfl) (fun _ _ _ h => h) (by rfl) (fun w hSw => by go_simp) hHeld ?_
            simp only [Act.put, List.setIfInBounds_toArray, List.set_cons_zero, List.set_cons_succ]
            refine take_val (i := 8) (.pointer (some ⟨b2, o2 + i * 7, none⟩)) rfl (by kernel_rfl) (by kernel_rfl) (by kernel_rfl) (fun _ _ _ h => h) (by rfl) (fun w hSw => by go_simp) hHeld ?_
            simp only [Act.put, List.setIfInBounds_toArray, List.set_cons_zero, List.set_cons_succ]
            refine take_val (i := 9) (.agg #[.string ya, .string yb]) rfl (by kernel_rfl) (by kernel_rfl) (by kernel_rfl) (fun _ _ _ h => h) (by rfl) (fun w hSw => by go_simp) hHeld ?_
            simp only [Act.put, List.setIfInBounds_toArray, List.set_cons_zero, List.set_cons_succ]
            refine take_val (i := 10) (.bool false) rfl (by kernel_rfl) (by kernel_rfl) (by kernel_rfl) (fun _ _ _ h => h) (by rfl) (fun w hSw => by go_simp) hHeld ?_
            simp only [Act.put, List.setIfInBounds_toArray, List.set_cons_zero, List.set_cons_succ]
            refine take_val (i := 11) (.bool false) rfl (by kernel_rfl) (by kernel_rfl) (by kernel_rfl) (fun _ _ _ h => h) (by rfl) (fun w hSw => by go_simp) hHeld ?_
            simp only [Act.put, List.setIfInBounds_toArray, List.set_cons_zero, List.set_cons_succ]
            refine take_val (i := 12) (.slice (some ⟨b1, o1, none⟩) d.length cap) rfl (by kernel_rfl) (by kernel_rfl) (by kernel_rfl) (fun _ _ _ h => h) (by rfl) (fun w hSw => by go_simp) hHeld ?_
            simp only [Act.put, List.setIfInBounds_toArray, List.set_cons_zero, List.set_cons_succ]
            refine take_val (i := 13) (.int .i64 i) rfl (by kernel_rfl) (by kernel_rfl) (by kernel_rfl) (fun _ _ _ h => h) (by rfl) (fun w hSw => by go_simp) hHeld ?_
            simp only [Act.put, List.setIfInBounds_toArray, List.set_cons_zero, List.set_cons_succ]
            refine take_val (i := 14) (.pointer (some ⟨b1, o1 + i * 7, none⟩)) rfl (by kernel_rfl) (by kernel_rfl) (by kernel_rfl) (fun _ _ _ h => h) (by rfl) (fun w hSw => by go_simp) hHeld ?_
            simp only [Act.put, List.setIfInBounds_toArray, List.set_cons_zero, List.set_cons_succ]
            refine take_val (i := 15) (.pointer (some ⟨b1, o1 + i * 7 + 2, none⟩)) rfl (by kernel_rfl) (by kernel_rfl) (by kernel_rfl) (fun _ _ _ h => h) (by rfl) (fun w hSw => by go_simp) hHeld ?_
            simp only [Act.put, List.setIfInBounds_toArray, List.set_cons_zero, List.set_cons_succ]
            refine take_val (i := 16) (.agg #[.int .i64 xn, .int .u64 xs, .int .i64 xt, .bool xl, .slice xp xo.length xc]) rfl (by kernel_rfl) (by kernel_rfl) (by kernel_rfl) (fun _ _ _ h => h) (by rfl) (fun w hSw => by go_simp) hHeld ?_
            simp only [Act.put, List.setIfInBounds_toArray, List.set_cons_zero, List.set_cons_succ]
            refine take_val (i := 17) (.slice (some ⟨b2, o2, none⟩) e.length cap') rfl (by kernel_rfl) (by kernel_rfl) (by kernel_rfl) (fun _ _ _ h => h) (by rfl) (fun w hSw => by go_simp) hHeld ?_
            simp only [Act.put, List.setIfInBounds_toArray, List.set_cons_zero, List.set_cons_succ]
            refine take_val (i := 18) (.int .i64 i) rfl (by kernel_rfl) (by kernel_rfl) (by kernel_rfl) (fun _ _ _ h => h) (by rfl) (fun w hSw => by go_simp) hHeld ?_
            simp only [Act.put, List.setIfInBounds_toArray, List.set_cons_zero, List.set_cons_succ]
            refine take_val (i := 19) (.pointer (some ⟨b2, o2 + i * 7, none⟩)) rfl (by kernel_rfl) (by kernel_rfl) (by kernel_rfl) (fun _ _ _ h => h) (by rfl) (fun w hSw => by go_simp) hHeld ?_
            simp only [Act.put, List.setIfInBounds_toArray, List.set_cons_zero, List.set_cons_succ]
            refine take_val (i := 20) (.pointer (some ⟨b2, o2 + i * 7 + 2, none⟩)) rfl (by kernel_rfl) (by kernel_rfl) (by kernel_rfl) (fun _ _ _ h => h) (by rfl) (fun w hSw => by go_simp) hHeld ?_
            simp only [Act.put, List.setIfInBounds_toArray, List.set_cons_zero, List.set_cons_succ]
            refine take_val (i := 21) (.agg #[.int .i64 yn, .int .u64 ys, .int .i64 yt, .bool yl, .slice yp yo.length yc]) rfl (by kernel_rfl) (by kernel_rfl) (by kernel_rfl) (fun _ _ _ h => h) (by rfl) (fun w hSw => by go_simp) hHeld ?_
            simp only [Act.put, List.setIfInBounds_toArray, List.set_cons_zero, List.set_cons_succ]
            refine wpAnyH_ready (rs := [22]) (by kernel_rfl) (by simp) ?_
            refine AllReadyH.cons (at_drop0 rfl) (fun K hK => ?_) AllReadyH.nil
            rw [if_pos (by rfl)]
            go_simp
            refine (HC.out _ HWD.out).mono ?_
            rintro z w1 ⟨rfl, hq1⟩
            have HB1 := hid (bel_then HWD.out HWD.out.size hq1)
            clear hq1 hHeld
            go_wp2_with fail
            refine hK.out _ _ (by have := HS.out _ HB1.out; simpa only [and_assoc] using this) (fun hHeld => ?_)
            clear hK K
            try simp only [Act.put, List.setIfInBounds_toArray, List.set_cons_zero, List.set_cons_succ]
            refine take_val (i := 23) (.bool (!Q)) rfl (by kernel_rfl) (by kernel_rfl) (by kernel_rfl) (fun _ _ _ h => h) (by rfl) (fun w hSw => by go_simp) hHeld ?_
            simp only [Act.put, List.setIfInBounds_toArray, List.set_cons_zero, List.set_cons_succ]
            refine take_val (i := 24) (.bool (!Q)) rfl (by kernel_rfl) (by kernel_rfl) (by kernel_rfl) (fun _ _ _ h => h) (by rfl) (fun w hSw => by go_simp) hHeld ?_
            simp only [Act.put, List.setIfInBounds_toArray, List.set_cons_zero, List.set_cons_succ]
            refine wpAnyH_done (by kernel_rfl) ?_ _
            clear hHeld
            go_wp2_with fail
            go_meet
            exact ⟨congrArg (fun b => Value.bool (!b)) HE1.out.symm, HB1.out⟩
          · rw [decide_eq_false hk] at hne
            have HE1 : Hid (decide (x.fnd = y.fnd) = false) := decide_eq_false fun h => hk (HXY.out.1 h).1
            obtain ⟨xa, xb, ⟨xn, xs, xt, xl, xp, xc, xo⟩⟩ := x
            obtain ⟨ya, yb, ⟨yn, ys, yt, yl, yp, yc, yo⟩⟩ := y
            simp only [CellsF, CellsV, Vx.sl, encVx] at HS HC
            clear hk HXY HQ G1 G2 HJ HC
            refine wp_region_held_drew (S := fun w' => (w'.cell? ⟨b1, o1 + i * 7, none⟩ = some (.string xa) ∧ w'.cell? ⟨b1, o1 + i * 7 + 1, none⟩ = some (.string xb) ∧ w'.cell? ⟨b1, o1 + i * 7 + 2, none⟩ = some (.int .i64 xn) ∧ w'.cell? ⟨b1, o1 + i * 7 + 2 + 1, none⟩ = some (.int .u64 xs) ∧ w'.cell? ⟨b1, o1 + i * 7 + 2 + 2, none⟩ = some (.int .i64 xt) ∧ w'.cell? ⟨b1, o1 + i * 7 + 2 + 3, none⟩ = some (.bool xl) ∧ w'.cell? ⟨b1, o1 + i * 7 + 2 + 4, none⟩ = some (.slice xp xo.length xc)) ∧ w'.cell? ⟨b2, o2 + i * 7, none⟩ = some (.string ya) ∧ w'.cell? ⟨b2, o2 + i * 7 + 1, none⟩ = some (.string yb) ∧ w'.cell? ⟨b2, o2 + i * 7 + 2, none⟩ = some (.int .i64 yn) ∧ w'.cell? ⟨b2, o2 + i * 7 + 2 + 1, none⟩ = some (.int .u64 ys) ∧ w'.cell? ⟨b2, o2 + i * 7 + 2 + 2, none⟩ = some (.int .i64 yt) ∧ w'.cell? ⟨b2, o2 + i * 7 + 2 + 3, none⟩ = some (.bool yl) ∧ w'.cell? ⟨b2, o2 + i * 7 + 2 + 4, none⟩ = some (.slice yp yo.length yc)) (by kernel_rfl) (by have := HS.out _ HWD.out; simpa only [and_assoc] using this) (fun hHeld => ?_)
            refine take_val (i := 0) (.slice (some ⟨b1, o1, none⟩) d.length cap) rfl (by kernel_rfl) (by kernel_rfl) (by kernel_rfl) (fun _ _ _ h => h) (by rfl) (fun w hSw => by go_simp) hHeld ?_
            simp only [Act.put, List.setIfInBounds_toArray, List.set_cons_zero, List.set_cons_succ]
            refine take_val (i := 1) (.int .i64 i) rfl (by kernel_rfl) (by kernel_rfl) (by kernel_rfl) (fun _ _ _ h => h) (by rfl) (fun w hSw => by go_simp) hHeld ?_
            simp only [Act.put, List.setIfInBounds_toArray, List.set_cons_zero, List.set_cons_succ]
            refine take_val (i := 2) (.pointer (some ⟨b1, o1 + i * 7, none⟩)) rfl (by kernel_rfl) (by kernel_rfl) (by kernel_rfl) (fun _ _ _ h => h) (by rfl) (fun w hSw => by go_simp) hHeld ?_
            simp only [Act.put, List.setIfInBounds_toArray, List.set_cons_zero, List.set_cons_succ]
            refine take_val (i := 3) (.pointer (some ⟨b1, o1 + i * 7, none⟩)) rfl (by kernel_rfl) (by kernel_rfl) (by kernel_rfl) (fun _ _ _ h => h) (by rfl) (fun w hSw => by go_simp) hHeld ?_
            simp only [Act.put, List.setIfInBounds_toArray, List.set_cons_zero, List.set_cons_succ]
            refine take_val (i := 4) (.agg #[.string xa, .string xb]) rfl (by kernel_rfl) (by kernel_rfl) (by kernel_rfl) (fun _ _ _ h => h) (by rfl) (fun w hSw => by go_simp) hHeld ?_
            simp only [Act.put, List.setIfInBounds_toArray, List.set_cons_zero, List.set_cons_succ]
            refine take_val (i := 5) (.slice (some ⟨b2, o2, none⟩) e.length cap') rfl (by kernel_rfl) (by kernel_rfl) (by kernel_rfl) (fun _ _ _ h => h) (by rfl) (fun w hSw => by go_simp) hHeld ?_
            simp only [Act.put, List.setIfInBounds_toArray, List.set_cons_zero, List.set_cons_succ]
            refine take_val (i := 6) (.int .i64 i) rfl (by kernel_rfl) (by kernel_rfl) (by kernel_rfl) (fun _ _ _ h => h) (by rfl) (fun w hSw => by go_simp) hHeld ?_
            simp only [Act.put, List.setIfInBounds_toArray, List.set_cons_zero, List.set_cons_succ]
            refine take_val (i := 7) (.pointer (some ⟨b2, o2 + i * 7, none⟩)) rfl (by kernel_rfl) (by kernel_rfl) (by kernel_rfl) (fun _ _ _ h => h) (by rfl) (fun w hSw => by go_simp) hHeld ?_
            simp only [Act.put, List.setIfInBounds_toArray, List.set_cons_zero, List.set_cons_succ]
            refine take_val (i := 8) (.pointer (some ⟨b2, o2 + i * 7, none⟩)) rfl (by kernel_rfl) (by kernel_rfl) (by kernel_rfl) (fun _ _ _ h => h) (by rfl) (fun w hSw => by go_simp) hHeld ?_
            simp only [Act.put, List.setIfInBounds_toArray, List.set_cons_zero, List.set_cons_succ]
            refine take_val (i := 9) (.agg #[.string ya, .string yb]) rfl (by kernel_rfl) (by kernel_rfl) (by kernel_rfl) (fun _ _ _ h => h) (by rfl) (fun w hSw => by go_simp) hHeld ?_
            simp only [Act.put, List.setIfInBounds_toArray, List.set_cons_zero, List.set_cons_succ]
            refine take_val (i := 10) (.bool true) rfl (by kernel_rfl) (by kernel_rfl) (by kernel_rfl) (fun _ _ _ h => h) (by rfl) (fun w hSw => by go_simp) hHeld ?_
            simp only [Act.put, List.setIfInBounds_toArray, List.set_cons_zero, List.set_cons_succ]
            refine take_val (i := 11) (.bool true) rfl (by kernel_rfl) (by kernel_rfl) (by kernel_rfl) (fun _ _ _ h => h) (by rfl) (fun w hSw => by go_simp) hHeld ?_
            simp only [Act.put, List.setIfInBounds_toArray, List.set_cons_zero, List.set_cons_succ]
            refine take_not (i := 12) rfl (by kernel_rfl) (by kernel_rfl) (by kernel_rfl) (fun _ _ _ h => h) (by rfl) hHeld ?_
            simp only [Act.put, List.setIfInBounds_toArray, List.set_cons_zero, List.set_cons_succ]
            refine take_not (i := 13) rfl (by kernel_rfl) (by kernel_rfl) (by kernel_rfl) (fun _ _ _ h => h) (by rfl) hHeld ?_
            simp only [Act.put, List.setIfInBounds_toArray, List.set_cons_zero, List.set_cons_succ]
            refine take_not (i := 14) rfl (by kernel_rfl) (by kernel_rfl) (by kernel_rfl) (fun _ _ _ h => h) (by rfl) hHeld ?_
            simp only [Act.put, List.setIfInBounds_toArray, List.set_cons_zero, List.set_cons_succ]
            refine take_not (i := 15) rfl (by kernel_rfl) (by kernel_rfl) (by kernel_rfl) (fun _ _ _ h => h) (by rfl) hHeld ?_
            simp only [Act.put, List.setIfInBounds_toArray, List.set_cons_zero, List.set_cons_succ]
            refine take_not (i := 16) rfl (by kernel_rfl) (by kernel_rfl) (by kernel_rfl) (fun _ _ _ h => h) (by rfl) hHeld ?_
            simp only [Act.put, List.setIfInBounds_toArray, List.set_cons_zero, List.set_cons_succ]
            refine take_not (i := 17) rfl (by kernel_rfl) (by kernel_rfl) (by kernel_rfl) (fun _ _ _ h => h) (by rfl) hHeld ?_
            simp only [Act.put, List.setIfInBounds_toArray, List.set_cons_zero, List.set_cons_succ]
            refine take_not (i := 18) rfl (by kernel_rfl) (by kernel_rfl) (by kernel_rfl) (fun _ _ _ h => h) (by rfl) hHeld ?_
            simp only [Act.put, List.setIfInBounds_toArray, List.set_cons_zero, List.set_cons_succ]
            refine take_not (i := 19) rfl (by kernel_rfl) (by kernel_rfl) (by kernel_rfl) (fun _ _ _ h => h) (by rfl) hHeld ?_
            simp only [Act.put, List.setIfInBounds_toArray, List.set_cons_zero, List.set_cons_succ]
            refine take_not (i := 20) rfl (by kernel_rfl) (by kernel_rfl) (by kernel_rfl) (fun _ _ _ h => h) (by rfl) hHeld ?_
            simp only [Act.put, List.setIfInBounds_toArray, List.set_cons_zero, List.set_cons_succ]
            refine take_not (i := 21) rfl (by kernel_rfl) (by kernel_rfl) (by kernel_rfl) (fun _ _ _ h => h) (by rfl) hHeld ?_
            simp only [Act.put, List.setIfInBounds_toArray, List.set_cons_zero, List.set_cons_succ]
            refine take_not (i := 22) rfl (by kernel_rfl) (by kernel_rfl) (by kernel_rfl) (fun _ _ _ h => h) (by rfl) hHeld ?_
            simp only [Act.put, List.setIfInBounds_toArray, List.set_cons_zero, List.set_cons_succ]
            refine take_not (i := 23) rfl (by kernel_rfl) (by kernel_rfl) (by kernel_rfl) (fun _ _ _ h => h) (by rfl) hHeld ?_
            simp only [Act.put, List.setIfInBounds_toArray, List.set_cons_zero, List.set_cons_succ]
            refine take_val (i := 24) (.bool true) rfl (by kernel_rfl) (by kernel_rfl) (by kernel_rfl) (fun _ _ _ h => h) (by rfl) (fun w hSw => by go_simp) hHeld ?_
            simp only [Act.put, List.setIfInBounds_toArray, List.set_cons_zero, List.set_cons_succ]
            refine wpAnyH_done (by kernel_rfl) ?_ _
            clear hHeld
            go_wp2_with fail
            go_meet
            exact ⟨congrArg (fun b => Value.bool (!b)) HE1.out.symm, HWD.out⟩
        case rest =>
          obtain ⟨rfl, HB1⟩ := hcut
          obtain ⟨Z, hZ⟩ : ∃ Z, decide (x.fnd = y.fnd) = Z := ⟨_, rfl⟩
          rw [hZ]
          have HZ := hid hZ
          clear hZ hne HC HS HXY HQ
          cases Z with
          | true =>
            go_wp2_with fail
            go_roundg (d.length - (i + 1))
            case measure => omega
            refine ⟨i + 1, by go_num, by omega, by omega, HB1.out, fun j hj => ?_⟩
            by_cases ej : j = i
            · subst ej
              rw [G1.out, G2.out, of_decide_eq_true HZ.out]
            · exact HJ.out j (by omega)
          | false =>
            have H0 : Hid (r = false) := HR.out.symm.trans (decide_eq_false fun h => by
              have h1 := G1.out
              rw [h, G2.out] at h1
              exact of_decide_eq_false HZ.out (Option.some.inj h1).symm)
            go_wp2_with fail
            go_ret
            exact ⟨ret_bool H0.out.symm, HB1.out⟩
      · have hltz : ¬ (i : Int) < (d.length : Int) := by omega
        have H0 : Hid (r = true) := HR.out.symm.trans (decide_eq_true (List.ext_getElem? fun j => by
          by_cases hj : j < d.length
          · exact HJ.out j (by omega)
          · rw [List.getElem?_eq_none (by rw [List.length_map]; omega), List.getElem?_eq_none (by rw [List.length_map]; have := HL.out; omega)]))
        go_wp2_with fail
        go_ret
        exact ⟨ret_bool H0.out.symm, HW.out⟩
  · have hbn : ((d.length : Int) != (e.length : Int)) = true := by simp; omega
    have H0 : Hid (r = false) := HR.out.symm.trans (decide_eq_false fun h => hle (by simpa using congrArg List.length h))
    go_enter Tryz.func16, Tryz.ntmps16
    go_wp2_with fail
    go_ret
    exact ⟨ret_bool H0.out.symm, Below.refl _ _⟩

end Go.Proofs.YticfpkodoghnnaaGreat

/-
  The iterator over the live ones of some keys (stage 7).
-/
namespace Go.Proofs.YticfpkodoghnnaaGreat
open Go.RowKit
attribute [local go_sem] Oper.semAt_some

/-- What an iterator hands out: a key, and a version in memory. -/
abbrev Kx := Ky × Vx
def encKx (x : Kx) : Array Value := #[.agg #[.string x.1.1, .string x.1.2], .agg (encVx x.2).toArray]
def fndX (x : Kx) : Fnd := (x.1, x.2.ver)

/-- The live ones of some keys at t. -/
def liveL (D : List RowD) (t : Int) (keys : List Ky) : List Fnd := keys.filterMap fun k => liveAt t (k, ofD D k)

theorem liveL_snoc (D : List RowD) (t : Int) (ks : List Ky) (k : Ky) : liveL D t (ks ++ [k]) = liveL D t ks ++ (match liveAt t (k, ofD D k) with | some x => [x] | none => []) := by
  unfold liveL
  rw [List.filterMap_append]
  congr 1
  cases h : liveAt t (k, ofD D k) <;> simp [h]

theorem liveAt_yes {D : List RowD} {t : Int} {k : Ky} {x : Vx} (hx : x.ver = (atV (ofD D k) t).getD zeroV) (hl : x.live = true) : liveAt t (k, ofD D k) = some (k, x.ver) ∧ atV (ofD D k) t = some x.ver := by
  cases h : atV (ofD D k) t with
  | none =>
    rw [h] at hx
    have : x.ver.live = false := by rw [hx]; rfl
    have e : x.ver.live = x.live := rfl
    rw [e, hl] at this
    cases this
  | some v =>
    rw [h] at hx
    have hv : x.ver = v := hx
    refine ⟨?_, by rw [hv]⟩
    unfold liveAt
    rw [show atV (k, ofD D k).2 t = some v from h]
    have : v.live = true := by rw [← hv]; exact hl
    simp [this, hv]
theorem liveAt_no {D : List RowD} {t : Int} {k : Ky} {x : Vx} (hx : x.ver = (atV (ofD D k) t).getD zeroV) (hl : x.live = false) : liveAt t (k, ofD D k) = none := by
  unfold liveAt
  cases h : atV (k, ofD D k).2 t with
  | none => rfl
  | some v =>
    have h' : atV (ofD D k) t = some v := h
    rw [h'] at hx
    have hv : x.ver = v := hx
    have : v.live = false := by rw [← hv]; exact hl
    simp [this]

theorem liveL_len (D : List RowD) (t : Int) (ks : List Ky) : (liveL D t ks).length ≤ ks.length := List.length_filterMap_le _ _

theorem liveL_prefix (D : List RowD) (t : Int) (ks : List Ky) (i : Nat) : liveL D t (ks.take i) <+: liveL D t ks := by
  refine ⟨liveL D t (ks.drop i), ?_⟩
  unfold liveL
  rw [← List.filterMap_append, List.take_append_drop]

theorem grown_of {w w' : World} (h : Below w.heap.size w w') : w.grownBy w' none := ⟨h.os, h.tape, h.output, h.size, fun i hi _ => h.block i hi⟩

/-- What a value that an iterator hands out is: of its own memory, and it may be. -/
def GdX (B N : Nat) (pre : List Kx) (x : Kx) (W : World) : Prop := OwnJ B W x.2.sl x.2.o ∧ mayB (x.2.o.map Fx.fld) = true ∧ pre.length < N ∧ B ≤ W.heap.size

/-- What a round of the caller's leaves alone: all below B but the box Bf. -/
def KpX (Bf B : Nat) (W W' : World) : Prop := Fr (fun b => b = Bf ∨ B ≤ b) W W'

theorem kpX_trans {Bf B : Nat} {X Y Z : World} (h : KpX Bf B X Y) (k : KpX Bf B Y Z) : KpX Bf B X Z := Fr.then h k fun _ hb => Or.inl hb
theorem kpX_put {Bf B : Nat} (W : World) (l : Nat) (o : Obj) (h : B ≤ l) : KpX Bf B W (W.putObj l o) :=
  ⟨rfl, rfl, rfl, by simp, fun k _ hn => World.putObj_heap_other (fun e => hn (Or.inr (by rw [e]; exact h)))⟩

theorem dlive_any (W : World) (g : Nat) (p : Option Addr) (len cap : Nat) (t : Int) :
    Calls Tryz.prog 63 #[.pointer (some ⟨g, 0, none⟩), .slice p len cap, .int .u64 t] W fun e w' => e = .returned (.func (.func 89) #[] #[.pointer (some ⟨W.heap.size + 1, 0, none⟩), .pointer (some ⟨W.heap.size, 0, none⟩), .pointer (some ⟨W.heap.size + 2, 0, none⟩)]) ∧
      w' = ((W.alloc (.cells #[.pointer (some ⟨g, 0, none⟩)] 25)).alloc (.cells #[.slice p len cap] 118)).alloc (.cells #[.int .u64 t] 29) := by
  have hmf : ∀ (fn : Fn) (first cap : Array Value) (w : World), (Instr.makeFunc fn first cap).run Tryz.prog w = .ok (.func fn first cap) w := fun _ _ _ _ => rfl
  go_enter Tryz.func63, Tryz.ntmps63
  go_wp2_with fail
  go_ret
  exact ⟨rfl, rfl⟩

/-- The iterator's world: what it reads, below B and off Bf. -/
structure LvAt (n0 : Nat) (w : World) (g m n : Nat) (G : Ky → Cm) (D : List RowD) (keys : List Ky) (t : Int) (p : Option Addr) (cap b0 b1 b2 Bf : Nat) : Prop where
  dir : DirM n0 w g m n G D
  h0 : w.heap[b0]? = some (.cells #[.pointer (some ⟨g, 0, none⟩)] 25 (0, 0))
  h1 : w.heap[b1]? = some (.cells #[.slice p keys.length cap] 118 (0, 0))
  h2 : w.heap[b2]? = some (.cells #[.int .u64 t] 29 (0, 0))
  row : keys = [] ∨ ∃ b off, p = some ⟨b, off, none⟩ ∧ KK.At w b off keys ∧ b ≠ Bf
  fit : ∀ k ∈ keys, FitK k
  few : keys.length ≤ 2400000000000
  n0f : b0 ≠ Bf
  n1f : b1 ≠ Bf
  n2f : b2 ≠ Bf
  off : ¬ BlkD g m G D Bf

theorem LvAt.fr {n0 : Nat} {w W : World} {g m n : Nat} {G : Ky → Cm} {D : List RowD} {keys : List Ky} {t : Int} {p : Option Addr} {cap b0 b1 b2 Bf : Nat} (h : LvAt n0 w g m n G D keys t p cap b0 b1 b2 Bf) (f : KpX Bf w.heap.size w W) : LvAt n0 W g m n G D keys t p cap b0 b1 b2 Bf := by
  have hb : ∀ {b : Nat}, b < w.heap.size → b ≠ Bf → W.heap[b]? = w.heap[b]? := fun {b} hl hn => f.block b hl fun e => by
    rcases e with e | e
    · exact hn e
    · omega
  have hlt : ∀ {b : Nat} {o : Obj}, w.heap[b]? = some o → b < w.heap.size := fun h => (Array.getElem?_eq_some_iff.1 h).1
  refine ⟨h.dir.fr f fun b hb e => ?_, (hb (hlt h.h0) h.n0f).trans h.h0, (hb (hlt h.h1) h.n1f).trans h.h1, (hb (hlt h.h2) h.n2f).trans h.h2, ?_, h.fit, h.few, h.n0f, h.n1f, h.n2f, h.off⟩
  · rcases e with e | e
    · rw [e] at hb; exact h.off hb
    · have := (h.dir.blk b hb).2; omega
  · rcases h.row with h1 | ⟨b, off, h1, h2, h3⟩
    · exact Or.inl h1
    · refine Or.inr ⟨b, off, h1, fun i hi j u hu => ?_, h3⟩
      have := h2 i hi j u hu
      exact (World.cell?_of_block (hb (cell_block this) h3)).trans this

set_option maxHeartbeats 4000000 in
set_option maxRecDepth 100000 in
theorem live1_in (nn : Nat) (hnn : 1 ≤ nn) {n0 : Nat} {w : World} {g m n : Nat} {G : Ky → Cm} {D : List RowD} {keys : List Ky} {t : Int} {p : Option Addr} {cap b0 b1 b2 Bf : Nat} (h : LvAt n0 w g m n G D keys t p cap b0 b1 b2 Bf) (l : Nat)
    (J Jx : List Kx → World → Prop) (W : World) (hW : Below w.heap.size w W) (hJ : AbidesFrom W.heap.size J)
    (hY : ∀ pre x W1, J pre W1 → GdX w.heap.size keys.length pre x W1 → YieldAt Fence.wide (nn - 1) Tryz.prog l (encKx x) W1 fun e W' =>
      (e = .returned (.bool true) ∧ J (pre ++ [x]) W' ∧ KpX Bf w.heap.size W1 W') ∨ (e = .returned (.bool false) ∧ Jx (pre ++ [x]) W'))
    (h0 : J [] W) :
    CallsIn Fence.wide nn Tryz.prog 89 #[.func (.yield l) #[] #[], .pointer (some ⟨b1, 0, none⟩), .pointer (some ⟨b0, 0, none⟩), .pointer (some ⟨b2, 0, none⟩)] W fun e W' => (∃ v, e = .returned v) ∧
      ((∃ xs : List Kx, xs.map fndX = liveL D t keys ∧ J xs W') ∨ (∃ pre : List Kx, pre.map fndX <+: liveL D t keys ∧ Jx pre W')) := by
  have HL := hid h
  have hf0 : KpX Bf w.heap.size w W := Fr.of_below hW
  have hl0 := h.fr hf0
  have c1 : W.cell? ⟨b1, 0, none⟩ = some (.slice p keys.length cap) := by rw [Lib.cell_of_heap hl0.h1]; rfl
  have hlen := h.few
  have ST0 : Hid (KpX Bf w.heap.size w W ∧ J [] W) := ⟨hf0, h0⟩
  clear hl0 hf0 h0 h
  refine callsIn_of_wp Tryz.func89 rfl trivial ?_ rfl
  simp only [Tryz.ntmps89, List.size_toArray, List.length_cons, List.length_nil, Nat.reduceAdd, Nat.reduceSub, Array.replicate_succ, Array.replicate_zero, List.push_toArray, List.append_toArray, List.nil_append, List.cons_append]
  gi_wp2
  clear c1
  gi_loopw [11] (fun vi wr => ∃ (i : Nat) (pre : List Kx), vi = .int .i64 i ∧ i ≤ keys.length ∧ KpX Bf w.heap.size w wr ∧ pre.map fndX = liveL D t (keys.take i) ∧ J pre wr ∧ W.heap.size ≤ wr.heap.size) (fun vi _ => keys.length - (intOf vi).toNat)
  case atStart => exact ⟨0, [], rfl, Nat.zero_le _, ST0.out.1, rfl, ST0.out.2, Nat.le_refl _⟩
  case round =>
    obtain ⟨i, pre, rfl, hi, hkp, hpre, hJs, hsz⟩ := hrel
    by_cases hlt : i < keys.length
    · have hltz : (i : Int) < (keys.length : Int) := by omega
      have hiz : (0 : Int) ≤ i := by omega
      have hlv := HL.out.fr hkp
      obtain ⟨kb, ko, rfl, hrow, _⟩ : ∃ b off, p = some ⟨b, off, none⟩ ∧ KK.At wr b off keys ∧ b ≠ Bf := by
        rcases hlv.row with e | e
        · rw [e] at hlt; simp at hlt
        · exact e
      obtain ⟨k0, k1⟩ := kk_at hrow i hlt
      have hfk := hlv.fit _ (List.getElem_mem hlt)
      have htk : keys.take (i + 1) = keys.take i ++ [keys[i]] := List.take_succ_eq_append_getElem hlt
      obtain ⟨k, hk⟩ : ∃ k, keys[i] = k := ⟨_, rfl⟩
      rw [hk] at k0 k1 hfk htk
      obtain ⟨W2, hW2⟩ : ∃ W2, wr.alloc (.cells #[.string k.1, .string k.2] 31) = W2 := ⟨_, rfl⟩
      have hb2 : Below wr.heap.size wr W2 := by rw [← hW2]; exact (Below.refl _ _).alloc (Nat.le_refl _) _
      have hs2 : W2.heap.size = wr.heap.size + 1 := by rw [← hW2]; simp
      have hk2 : W2.heap[wr.heap.size]? = some (.cells #[.string k.1, .string k.2] 31 (0, 0)) := by rw [← hW2]; exact heap_alloc_new wr _
      have hkp2 : KpX Bf w.heap.size w W2 := kpX_trans hkp (Fr.of_below hb2)
      have hlv2 := HL.out.fr hkp2
      have HAT := hid (dat_any hlv2.dir k hfk t)
      have d0 : W2.cell? ⟨b0, 0, none⟩ = some (.pointer (some ⟨g, 0, none⟩)) := by rw [Lib.cell_of_heap hlv2.h0]; rfl
      have d2 : W2.cell? ⟨b2, 0, none⟩ = some (.int .u64 t) := by rw [Lib.cell_of_heap hlv2.h2]; rfl
      have e0 : W2.cell? ⟨wr.heap.size, 0, none⟩ = some (.string k.1) := by rw [Lib.cell_of_heap hk2]; rfl
      have e1 : W2.cell? ⟨wr.heap.size, 1, none⟩ = some (.string k.2) := by rw [Lib.cell_of_heap hk2]; rfl
      have HSN := hid (liveL_snoc D t (keys.take i) k)
      rw [← htk] at HSN
      have HPRE := hid hpre
      have hplen : pre.length ≤ i := by
        have h1 := congrArg List.length hpre
        rw [List.length_map] at h1
        have h2 := liveL_len D t (keys.take i)
        rw [List.length_take] at h2
        omega
      have HMAY : Hid (∀ v, atV (ofD D k) t = some v → mayB v.val = true) := fun v hv => by
        have hm := at_mem hv
        have hne : ofD D k ≠ [] := by intro e; rw [e] at hm; simp at hm
        obtain ⟨h1, h2⟩ := hlv2.dir.prg k hne
        rw [← h2] at hm
        obtain ⟨x, hx, rfl⟩ := List.mem_map.1 hm
        exact (h1.each x hx).2
      have HJS := hid hJs
      have HKP2 := hid hkp2
      have HB2 := hid hb2
      have hsw : w.heap.size ≤ wr.heap.size := hkp.size
      obtain ⟨K0, hK0⟩ : ∃ K0, wr.heap.size = K0 := ⟨_, rfl⟩
      obtain ⟨ka, kbb⟩ := k
      simp only at *
      clear hlv hlv2 hrow hfk htk hk hb2 hk2 hkp hkp2 hpre hJs
      rw [hK0] at e0 e1 hs2 hsw
      gi_wp2
      refine ⟨trivial, ?_⟩
      gi_at_call 32
      refine (callsIn_wide.2 HAT.out).mono ?_
      rintro e w3 ⟨x, rfl, hx, hJ3, hb3⟩
      clear HAT
      have hs3 := hb3.size
      obtain ⟨W4, hW4⟩ : ∃ W4, w3.alloc (.cells (encVx x).toArray 39) = W4 := ⟨_, rfl⟩
      have hb4 : Below w3.heap.size w3 W4 := by rw [← hW4]; exact (Below.refl _ _).alloc (Nat.le_refl _) _
      have hs4 := hb4.size
      have hv4 : VerAt W4 w3.heap.size x := by rw [← hW4]; exact heap_alloc_new w3 _
      have hb24 : Below W2.heap.size W2 W4 := bel_then hb3 hs3 hb4
      have hb14 : Below wr.heap.size wr W4 := bel_then HB2.out (by omega) hb24
      have e04 : W4.cell? ⟨K0, 0, none⟩ = some (.string ka) := (hb24.cell (p := ⟨K0, 0, none⟩) (show K0 < W2.heap.size by omega)).trans e0
      have e14 : W4.cell? ⟨K0, 1, none⟩ = some (.string kbb) := (hb24.cell (p := ⟨K0, 1, none⟩) (show K0 < W2.heap.size by omega)).trans e1
      have hJ4 : J pre W4 := hJ pre wr W4 none HJS.out (grown_of hb14) fun r e => by cases e
      have hO4 : OwnJ w.heap.size W4 x.sl x.o := own_weakJ (hJ3.on hb4) (by omega)
      have hkp4 : KpX Bf w.heap.size w W4 := kpX_trans HKP2.out (Fr.of_below hb24)
      obtain ⟨v0, v1, v2, v3, v4⟩ := hv4.cells
      obtain ⟨V0, hV0⟩ : ∃ V0, w3.heap.size = V0 := ⟨_, rfl⟩
      rw [hV0] at v0 v1 v2 v3 v4
      have HX := hid hx
      have hmayx : x.live = true → mayB (x.o.map Fx.fld) = true := fun hl => by
        obtain ⟨_, h2⟩ := liveAt_yes (k := (ka, kbb)) hx hl
        exact HMAY.out _ h2
      have HMX := hid hmayx
      have HO4 := hid hO4
      have HKP4 := hid hkp4
      have HJ4 := hid hJ4
      have hs24 : W.heap.size ≤ W4.heap.size := by omega
      have hsw4 : w.heap.size ≤ W4.heap.size := by omega
      obtain ⟨o, ho⟩ : ∃ o, (atV (ofD D (ka, kbb)) t).isSome = o := ⟨_, rfl⟩
      rw [ho]
      obtain ⟨xn, xs, xt, xl, xp, xc, xo⟩ := x
      simp only [encVx, Vx.sl] at *
      clear hx hJ3 hb3 hb4 hv4 hb24 hb14 hJ4 hO4 hkp4 hmayx e0 e1 d0 d2 ho k0 k1
      cases xl with
      | true =>
        have hG4 : GdX w.heap.size keys.length pre ((ka, kbb), ⟨xn, xs, xt, true, xp, xc, xo⟩) W4 := ⟨HO4.out, HMX.out rfl, by omega, hsw4⟩
        obtain ⟨fn, tmps, assign, body, hy, hR⟩ := hY pre ((ka, kbb), ⟨xn, xs, xt, true, xp, xc, xo⟩) W4 HJ4.out hG4
        have HLY := hid (liveAt_yes HX.out rfl).1
        rw [HLY.out] at HSN
        have HNX : Hid ((pre ++ [((ka, kbb), (⟨xn, xs, xt, true, xp, xc, xo⟩ : Vx))]).map fndX = liveL D t (keys.take (i + 1))) := by
          show _ = _
          rw [HSN.out, List.map_append, HPRE.out]
          rfl
        simp only [encKx, encVx, Vx.sl] at hy
        clear hG4
        gi_wp2
        refine hR.mono ?_
        rintro e W5 (⟨rfl, hJ5, hk5⟩ | ⟨rfl, hJx5⟩)
        · have HK5 := hid (kpX_trans HKP4.out hk5)
          have HJ5 := hid hJ5
          have hs5 : W.heap.size ≤ W5.heap.size := Nat.le_trans hs24 hk5.size
          clear hk5 hJ5
          gi_wp2
          go_roundw
          case rel => exact ⟨i + 1, _, by go_num, by omega, HK5.out, HNX.out, HJ5.out, hs5⟩
          case measure => simp [intOf]; omega
        · gi_wp2
          refine bodyPost_ret (results_none rfl _ _ _) rfl ?_
          exact ⟨⟨_, rfl⟩, .inr ⟨_, by rw [HNX.out]; exact liveL_prefix D t keys (i + 1), hJx5⟩⟩
      | false =>
        have HLN := hid (liveAt_no HX.out rfl)
        simp only [HLN.out, List.append_nil] at HSN
        gi_wp2
        refine ⟨fun _ h => (by cases h), ?_⟩
        gi_wp2
        go_roundw
        case rel => exact ⟨i + 1, pre, by go_num, by omega, HKP4.out, by rw [HSN.out]; exact HPRE.out, HJ4.out, hs24⟩
        case measure => simp [intOf]; omega
    · have hltz : ¬ (i : Int) < (keys.length : Int) := by omega
      have hti : keys.take i = keys := List.take_of_length_le (by omega)
      rw [hti] at hpre
      gi_wp2
      go_end0
      exact ⟨⟨_, rfl⟩, .inl ⟨pre, hpre, hJs⟩⟩

/-- The iterator's contract. -/
theorem live_seq (nn : Nat) (hnn : 1 ≤ nn) {n0 : Nat} {w : World} {g m n : Nat} {G : Ky → Cm} {D : List RowD} {keys : List Ky} {t : Int} {p : Option Addr} {cap b0 b1 b2 Bf : Nat} (h : LvAt n0 w g m n G D keys t p cap b0 b1 b2 Bf) :
    SeqM Fence.wide nn Tryz.prog 89 #[.pointer (some ⟨b1, 0, none⟩), .pointer (some ⟨b0, 0, none⟩), .pointer (some ⟨b2, 0, none⟩)] encKx (GdX w.heap.size keys.length) (KpX Bf w.heap.size) (fun xs => xs.map fndX = liveL D t keys) (fun pre => pre.map fndX <+: liveL D t keys) w :=
  fun l J Jx W hW hJ hY h0 => live1_in nn hnn h l J Jx W hW hJ hY h0

end Go.Proofs.YticfpkodoghnnaaGreat

/-
  Finds collected in a box (stage 7).
-/
namespace Go.Proofs.YticfpkodoghnnaaGreat
open Go.RowKit

/-- What a list of finds, told, is. -/
def FdPost (w : World) (l : List Fnd) (e : Ending) (w' : World) : Prop :=
  ∃ u fs, e = .returned u ∧ KFd.Own w.heap.size w' u fs ∧ (∀ f ∈ fs, OwnJ w.heap.size w' f.v.sl f.v.o ∧ mayB (f.v.o.map Fx.fld) = true) ∧ fs.map Fd.fnd = l ∧ Below w.heap.size w w'

/-- Finds under way: in the box Bf lies a list of what came so far and was taken, all of it from w on. -/
structure FdSt (Bf : Nat) (w : World) (sel : Fnd → Bool) (pre : List Kx) (v : Value) (fs : List Fd) (W : World) : Prop where
  box : W.heap[Bf]? = some (.cells #[v] 46 (0, 0))
  own : KFd.Own w.heap.size W v fs
  val : ∀ f ∈ fs, OwnJ w.heap.size W f.v.sl f.v.o ∧ mayB (f.v.o.map Fx.fld) = true
  eq : fs.map Fd.fnd = (pre.map fndX).filter sel
  len : fs.length ≤ pre.length
  fr : Fr (fun b => b = Bf) w W
  lt : Bf < w.heap.size

theorem ownJ_cells {N : Nat} {w : World} {u : Value} {o : List Fx} (h : OwnJ N w u o) {k : Nat} (hk : BlkX u o k) : ∃ cs t, w.heap[k]? = some (.cells cs t (0, 0)) ∧ (t = 107 ∨ t = 9) := by
  rcases hk with hk | ⟨f, hf, hk⟩
  · obtain ⟨cs, hc⟩ := own_type h.1.1 hk
    exact ⟨cs, _, hc, Or.inl rfl⟩
  · obtain ⟨cs, hc⟩ := own_type (h.1.2 f hf) hk
    exact ⟨cs, _, hc, Or.inr rfl⟩

/-- What lies in cells stays where a block that is none turns. -/
theorem fr_row {W W' : World} {row : Option Nat} (hg : W.grownBy W' row) : Fr (fun b => row = some b) W W' := Fr.of_grown hg fun _ h => h

theorem ownJ_nc {N : Nat} {W W' : World} {u : Value} {o : List Fx} {row : Option Nat} (h : OwnJ N W u o) (hg : W.grownBy W' row) (hr : ∀ r, row = some r → ∃ ob : Obj, W.heap[r]? = some ob ∧ ob.isCells = false) : OwnJ N W' u o :=
  ownJ_fr h (fr_row hg) fun k hk e => by
    obtain ⟨cs, t, h1, _⟩ := ownJ_cells h hk
    obtain ⟨ob, h2, h3⟩ := hr k e
    rw [h1] at h2
    injection h2 with h2
    rw [← h2] at h3
    cases h3

theorem own_nc {α : Type} {K : Kind α} {N : Nat} {W W' : World} {v : Value} {d : List α} {row : Option Nat} (h : K.Own N W v d) (hg : W.grownBy W' row) (hr : ∀ r, row = some r → ∃ ob : Obj, W.heap[r]? = some ob ∧ ob.isCells = false) : K.Own N W' v d :=
  (fr_row hg).row h fun k hk e => by
    obtain ⟨cs, h1⟩ := own_type h hk
    obtain ⟨ob, h2, h3⟩ := hr k e
    rw [h1] at h2
    injection h2 with h2
    rw [← h2] at h3
    cases h3

theorem cells_nc {W W' : World} {b : Nat} {cs : Array Value} {t : TypeId} {fz : Nat × Nat} {row : Option Nat} (h : W.heap[b]? = some (.cells cs t fz)) (hg : W.grownBy W' row) (hr : ∀ r, row = some r → ∃ ob : Obj, W.heap[r]? = some ob ∧ ob.isCells = false) : W'.heap[b]? = some (.cells cs t fz) :=
  (hg.block b (Array.getElem?_eq_some_iff.1 h).1 fun e => by
    obtain ⟨ob, h2, h3⟩ := hr b e.symm
    rw [h] at h2
    injection h2 with h2
    rw [← h2] at h3
    cases h3).trans h

theorem FdSt.nc {Bf : Nat} {w : World} {sel : Fnd → Bool} {pre : List Kx} {v : Value} {fs : List Fd} {W W' : World} {row : Option Nat} (h : FdSt Bf w sel pre v fs W) (hg : W.grownBy W' row) (hr : ∀ r, row = some r → w.heap.size ≤ r ∧ ∃ ob : Obj, W.heap[r]? = some ob ∧ ob.isCells = false) : FdSt Bf w sel pre v fs W' :=
  ⟨cells_nc h.box hg fun r e => (hr r e).2, own_nc h.own hg fun r e => (hr r e).2, fun f hf => ⟨ownJ_nc (h.val f hf).1 hg fun r e => (hr r e).2, (h.val f hf).2⟩, h.eq, h.len, Fr.then h.fr (fr_row hg) fun b hb => Or.inr (hr b hb).1, h.lt⟩

theorem FdSt.own_from (Bf : Nat) (w : World) (sel : Fnd → Bool) : OwnFrom w.heap.size (fun pre W => ∃ v fs, FdSt Bf w sel pre v fs W) := by
  rintro s W W' row ⟨v, fs, h⟩ hg hr
  exact ⟨v, fs, h.nc hg hr⟩

theorem FdSt.on {Bf : Nat} {w : World} {sel : Fnd → Bool} {pre : List Kx} {v : Value} {fs : List Fd} {W W' : World} (h : FdSt Bf w sel pre v fs W) (hb : Below W.heap.size W W') : FdSt Bf w sel pre v fs W' :=
  h.nc (grown_of hb) fun r e => by cases e

theorem GdX.nc {B N : Nat} {pre : List Kx} {x : Kx} {W W' : World} {row : Option Nat} (h : GdX B N pre x W) (hg : W.grownBy W' row) (hr : ∀ r, row = some r → ∃ ob : Obj, W.heap[r]? = some ob ∧ ob.isCells = false) : GdX B N pre x W' :=
  ⟨ownJ_nc h.1 hg hr, h.2.1, h.2.2.1, Nat.le_trans h.2.2.2 hg.size⟩

theorem keeps_of {B : Nat} {P : Nat → Prop} {W W' : World} (f : Fr P W W') (h : ∀ b, B ≤ b → P b → ∃ cs t fz, W.heap[b]? = some (.cells cs t fz)) : KeepsFrom B W W' :=
  ⟨f.size, fun k o hk ho hc => by
    by_cases hp : P k
    · obtain ⟨cs, t, fz, hh⟩ := h k hk hp
      rw [hh] at ho
      injection ho with ho
      rw [← ho] at hc
      cases hc
    · exact (f.block k (Array.getElem?_eq_some_iff.1 ho).1 hp).trans ho⟩

/-- One more find, appended, and the box written over. -/
theorem fd_push {Bf : Nat} {w : World} {sel : Fnd → Bool} {pre : List Kx} {v v' : Value} {fs : List Fd} {W W4 w1 : World} {x : Kx} {N : Nat} (h : FdSt Bf w sel pre v fs W) (hx : GdX w.heap.size N pre x W) (hb4 : Below W.heap.size W W4) (hg : W4.grownBy w1 v.ownBlock)
    (ho1 : KFd.Own w.heap.size w1 v' (fs ++ [⟨x.1.1, x.1.2, x.2⟩])) (hs : sel (fndX x) = true) :
    KeepsFrom w.heap.size W (w1.setCell ⟨Bf, 0, none⟩ v') ∧ KpX Bf w.heap.size W (w1.setCell ⟨Bf, 0, none⟩ v') ∧ FdSt Bf w sel (pre ++ [x]) v' (fs ++ [⟨x.1.1, x.1.2, x.2⟩]) (w1.setCell ⟨Bf, 0, none⟩ v') := by
  have hlt := h.lt
  have hfs := h.fr.size
  have hown4 := Kind.own_on h.own hb4
  have hblk : ∀ b, v.ownBlock = some b → w.heap.size ≤ b ∧ ∃ cs, W.heap[b]? = some (.cells cs 70 (0, 0)) := fun b hb => ⟨(World.ownsRow.lt h.own b hb).1, own_type h.own hb⟩
  have fset : Fr (fun b => b = Bf) w1 (w1.setCell ⟨Bf, 0, none⟩ v') := Fr.of_grown (grown_set w1 Bf 0 v') fun k hk => by injection hk with hk; exact hk.symm
  have f41 : Fr (fun b => v.ownBlock = some b) W w1 := Fr.then (Fr.of_below hb4) (fr_row hg) fun b hb => Or.inl hb
  have f5 : Fr (fun b => b = Bf ∨ v.ownBlock = some b) W (w1.setCell ⟨Bf, 0, none⟩ v') := Fr.then (f41.mono fun b hb => Or.inr hb) fset fun b hb => Or.inl (Or.inl hb)
  have hbox1 : w1.heap[Bf]? = some (.cells #[v] 46 (0, 0)) := (f41.block Bf (by omega) fun e => by have := (hblk Bf e).1; omega).trans h.box
  have hval : ∀ {u : Value} {o : List Fx}, OwnJ w.heap.size W u o → OwnJ w.heap.size (w1.setCell ⟨Bf, 0, none⟩ v') u o := fun {u o} hJ => ownJ_fr hJ f5 fun k hk e => by
    rcases e with e | e
    · have := (ownJ_blk hJ k hk).1; omega
    · obtain ⟨cs, h1⟩ := (hblk k e).2
      obtain ⟨cs', t, h2, h3⟩ := ownJ_cells hJ hk
      rw [h1] at h2
      injection h2 with h2
      injection h2 with _ h2 _
      rcases h3 with h3 | h3
      · exact absurd (h2.trans h3) (by decide)
      · exact absurd (h2.trans h3) (by decide)
  refine ⟨keeps_of f5 fun b hb e => ?_, f5.mono fun b hb => ?_, ?_⟩
  · rcases e with e | e
    · omega
    · obtain ⟨cs, h1⟩ := (hblk b e).2
      exact ⟨_, _, _, h1⟩
  · rcases hb with hb | hb
    · exact Or.inl hb
    · exact Or.inr (hblk b hb).1
  · refine ⟨heap_setCell_same w1 Bf 0 _ _ _ hbox1, fset.row ho1 fun k hk e => ?_, fun f hf => ?_, ?_, ?_, Fr.then h.fr f5 fun b hb => ?_, hlt⟩
    · have := (World.ownsRow.lt ho1 k hk).1; omega
    · rcases List.mem_append.1 hf with hf | hf
      · exact ⟨hval (h.val f hf).1, (h.val f hf).2⟩
      · rw [List.mem_singleton] at hf
        subst hf
        exact ⟨hval hx.1, hx.2.1⟩
    · rw [List.map_append, List.map_append, List.filter_append, h.eq]
      congr 1
      simp only [List.map_cons, List.map_nil, List.filter_cons, hs, List.filter_nil, if_true]
      rfl
    · rw [List.length_append, List.length_append]
      have := h.len
      simp only [List.length_singleton]
      omega
    · rcases hb with hb | hb
      · exact Or.inl hb
      · exact Or.inr (hblk b hb).1

/-- One that is not taken. -/
theorem fd_pass {Bf : Nat} {w : World} {sel : Fnd → Bool} {pre : List Kx} {v : Value} {fs : List Fd} {W W4 : World} {x : Kx} (h : FdSt Bf w sel pre v fs W) (hb4 : Below W.heap.size W W4) (hs : sel (fndX x) = false) :
    KeepsFrom w.heap.size W W4 ∧ KpX Bf w.heap.size W W4 ∧ FdSt Bf w sel (pre ++ [x]) v fs W4 := by
  have h4 := h.on hb4
  refine ⟨keeps_of (P := fun _ => False) (Fr.of_below hb4) fun b _ e => e.elim, Fr.of_below hb4, h4.box, h4.own, h4.val, ?_, ?_, h4.fr, h4.lt⟩
  · rw [List.map_append, List.filter_append, ← h.eq]
    simp [hs]
  · rw [List.length_append]
    have := h.len
    omega

end Go.Proofs.YticfpkodoghnnaaGreat

/-
  The contracts of token and Token of package name, and of bar and Token of the reference.
-/
namespace Go.Proofs.YticfpkodoghnnaaGreat
open Go.RowKit



def tokSys (s : ByteArray) : ByteArray := if 0 ≤ Lib.indexByte s.data.toList 124 then s.extract 0 (Lib.indexByte s.data.toList 124).toNat else ⟨#[]⟩
def tokCode (s : ByteArray) : ByteArray := if 0 ≤ Lib.indexByte s.data.toList 124 then s.extract ((Lib.indexByte s.data.toList 124).toNat + 1) s.size else s
def tokenB (p t : ByteArray) : Bool :=
  if 0 ≤ Lib.indexByte p.data.toList 124 then ((tokSys p).toList == (tokSys t).toList) && ((tokCode p).toList == (tokCode t).toList || (tokCode p).toList.isEmpty)
  else p.toList == (tokCode t).toList

theorem tok_no {s : ByteArray} (h : Lib.indexByte s.data.toList 124 = -1) : tokSys s = ⟨#[]⟩ ∧ tokCode s = s := by
  unfold tokSys tokCode; rw [h]; exact ⟨rfl, rfl⟩
theorem tok_yes {s : ByteArray} {i : Nat} (h : Lib.indexByte s.data.toList 124 = (i : Int)) : tokSys s = s.extract 0 i ∧ tokCode s = s.extract (i + 1) s.size := by
  unfold tokSys tokCode; rw [h, if_pos (by omega), if_pos (by omega), Int.toNat_natCast]; exact ⟨rfl, rfl⟩
theorem tokenB_bare {p : ByteArray} (t : ByteArray) (h : Lib.indexByte p.data.toList 124 = -1) : tokenB p t = (p.toList == (tokCode t).toList) := by
  unfold tokenB; rw [h]; rfl
theorem tokenB_bar {p : ByteArray} {i : Nat} (t : ByteArray) (h : Lib.indexByte p.data.toList 124 = (i : Int)) :
    tokenB p t = (((tokSys p).toList == (tokSys t).toList) && ((tokCode p).toList == (tokCode t).toList || (tokCode p).toList.isEmpty)) := by
  unfold tokenB; rw [h, if_pos (by omega)]

set_option maxHeartbeats 400000 in
theorem token_no (s : ByteArray) (w : World) (hix : Lib.indexByte s.data.toList 124 = -1) :
    Calls Tryz.prog 141 #[.string s] w fun e w' => e = .returned (.tuple #[.string ⟨#[]⟩, .string s]) ∧ w' = w := by
  have HX : Hid (Lib.indexByte s.data.toList 124 = -1) := hix
  clear hix
  go_enter Tryz.func141, Tryz.ntmps141
  go_wp2_with (go_at_call 163; refine (cut_no _ _ _ HX.out).mono ?_; rintro e w' ⟨rfl, rfl⟩)
  go_ret2
  exact ⟨rfl, rfl⟩

set_option maxHeartbeats 400000 in
theorem token_yes (s : ByteArray) (w : World) (i : Nat) (hix : Lib.indexByte s.data.toList 124 = (i : Int)) (hi : i < s.size) (hs : s.size ≤ maxLen) :
    Calls Tryz.prog 141 #[.string s] w fun e w' => e = .returned (.tuple #[.string (s.extract 0 i), .string (s.extract (i + 1) s.size)]) ∧ ∃ n, w' = w.drewN n := by
  have HX : Hid (Lib.indexByte s.data.toList 124 = (i : Int) ∧ i < s.size ∧ s.size ≤ maxLen) := ⟨hix, hi, hs⟩
  clear hix hi hs
  go_enter Tryz.func141, Tryz.ntmps141
  go_wp2_with (go_at_call 163; refine (cut_yes _ _ _ i HX.out.1 HX.out.2.1 HX.out.2.2).mono ?_; rintro e w' ⟨rfl, n, rfl⟩)
  go_ret2
  exact ⟨rfl, n, rfl⟩

theorem token_any (s : ByteArray) (w : World) (hs : s.size ≤ maxLen) :
    Calls Tryz.prog 141 #[.string s] w fun e w' => e = .returned (.tuple #[.string (tokSys s), .string (tokCode s)]) ∧ ∃ n, w' = w.drewN n := by
  rcases ix_cases s.data.toList 124 with ⟨h1, _⟩ | ⟨i, h1, h2, _, _⟩
  · rw [(tok_no h1).1, (tok_no h1).2]
    exact (token_no s w h1).mono fun e w' ⟨a, b⟩ => ⟨a, 0, by rw [b]; rfl⟩
  · rw [(tok_yes h1).1, (tok_yes h1).2]
    exact token_yes s w i h1 (by simpa using h2) hs

set_option maxHeartbeats 400000 in
theorem Token_any (p t : ByteArray) (w : World) (hp : p.size ≤ maxLen) (ht : t.size ≤ maxLen) :
    Calls Tryz.prog 115 #[.string p, .string t] w fun e w' => e = .returned (.bool (tokenB p t)) ∧ ∃ n, w' = w.drewN n := by
  have HS : Hid (p.size ≤ maxLen ∧ t.size ≤ maxLen) := ⟨hp, ht⟩
  clear hp ht
  rcases ix_cases p.data.toList 124 with ⟨h1, _⟩ | ⟨i, h1, _, _, _⟩
  · have HB := hid (tokenB_bare t h1)
    have hd : decide (0 ≤ Lib.indexByte p.data.toList 124) = false := by rw [h1]; rfl
    clear h1
    go_enter Tryz.func115, Tryz.ntmps115
    go_wp2_with (first | (go_at_call 141; refine (token_any _ _ HS.out.2).mono ?_; rintro e w' ⟨rfl, n, rfl⟩) | (go_at_call 142; refine (Tryz.strings_Contains_one _ _ _).mono ?_; rintro e w' ⟨rfl, rfl⟩))
    go_ret
    exact ⟨ret_bool (HB.out).symm, n, rfl⟩
  · have HB := hid (tokenB_bar t h1)
    have hd : decide (0 ≤ Lib.indexByte p.data.toList 124) = true := by rw [h1]; simp
    clear h1
    go_enter Tryz.func115, Tryz.ntmps115
    go_wp2_with fail
    refine (token_any _ _ HS.out.2).mono ?_
    rintro e w' ⟨rfl, n, rfl⟩
    go_wp2_with (go_at_call 142; refine (Tryz.strings_Contains_one _ _ _).mono ?_; rintro e w' ⟨rfl, rfl⟩)
    refine (token_any _ _ HS.out.1).mono ?_
    rintro e w' ⟨rfl, m, rfl⟩
    cases e1 : ((tokSys p).toList == (tokSys t).toList)
    · go_wp2_with fail
      go_ret
      exact ⟨ret_bool (by rw [HB.out, e1]; rfl), _, rfl⟩
    · cases e2 : ((tokCode p).toList == (tokCode t).toList)
      · go_wp2_with fail
        go_ret
        exact ⟨ret_bool (by rw [HB.out, e1, e2]; rfl), _, rfl⟩
      · go_wp2_with fail
        go_ret
        exact ⟨ret_bool (by rw [HB.out, e1, e2]; rfl), _, rfl⟩

end Go.Proofs.YticfpkodoghnnaaGreat

/-
  The contracts of the reference's bar and Token.
-/
namespace Go.Proofs.YticfpkodoghnnaaGreat
open Go.RowKit

/-- No byte c among the first k. -/
theorem ix_none_of (s : ByteArray) (c : UInt8) (h : ∀ j, (hj : j < s.size) → s[j] ≠ c) : Lib.indexByte s.data.toList c = -1 := by
  rcases ix_cases s.data.toList c with ⟨h1, _⟩ | ⟨i, _, h2, h3, _⟩
  · exact h1
  · have hi : i < s.size := by simpa using h2
    rw [Lib.data_getElem? s i hi] at h3
    exact absurd (Option.some.inj h3) (h i hi)

theorem ix_at_of (s : ByteArray) (c : UInt8) (k : Nat) (hk : k < s.size) (h : ∀ j, j < k → (hj : j < s.size) → s[j] ≠ c) (hc : s[k] = c) : Lib.indexByte s.data.toList c = (k : Int) := by
  rcases ix_cases s.data.toList c with ⟨_, h2⟩ | ⟨i, h1, h2, h3, h4⟩
  · exfalso
    apply h2
    rw [← hc, ← byte_at s k hk]
    exact List.getElem_mem _
  · have hi : i < s.size := by simpa using h2
    rw [Lib.data_getElem? s i hi] at h3
    have e3 := Option.some.inj h3
    rcases Nat.lt_trichotomy i k with hl | rfl | hl
    · exact absurd e3 (h i hl hi)
    · exact h1
    · exfalso
      apply h4
      rw [← hc, ← byte_at s k hk]
      rw [List.mem_iff_getElem]
      exact ⟨k, by simp; omega, by rw [List.getElem_take]⟩

set_option maxHeartbeats 400000 in
theorem bar_any (s : ByteArray) (w : World) (hs : s.size ≤ maxLen) :
    Calls Tryz.prog 165 #[.string s] w fun e w' => e = .returned (.int .i64 (Lib.indexByte s.data.toList 124)) ∧ w' = w := by
  unfold maxLen at hs
  have HN := hid (ix_none_of s 124)
  have HA := hid (ix_at_of s 124)
  generalize Lib.indexByte s.data.toList 124 = r at *
  go_enter Tryz.func165, Tryz.ntmps165
  go_wp2
  go_loop [3] (fun i => ∃ k : Nat, k ≤ s.size ∧ i = .int .i64 k ∧ (∀ j, j < k → (hj : j < s.size) → s[j] ≠ 124)) (fun i => s.size - (intOf i).toNat)
  case atStart => exact ⟨0, by omega, rfl, fun j h => by omega⟩
  case round =>
    obtain ⟨k, hk, rfl, hall⟩ := hrel
    have HL := hid hall
    clear hall
    by_cases hlt : k < s.size
    · by_cases hc : s[k] = 124
      · have hb : ((s[k].toNat : Int) == 124) = true := by rw [hc]; rfl
        have HC := hid hc
        clear hc
        go_wp2
        go_ret
        exact ⟨ret_int (HA.out k hlt HL.out HC.out).symm, rfl⟩
      · have hb : ((s[k].toNat : Int) == 124) = false := by
          rw [beq_eq_false_iff_ne]
          intro h
          apply hc
          apply UInt8.toNat_inj.1
          have : (124 : UInt8).toNat = 124 := rfl
          omega
        have HC := hid hc
        clear hc
        go_wp2
        go_round
        case rel =>
          refine ⟨k + 1, by omega, by go_num, fun j h1 hj => ?_⟩
          by_cases hjk : j = k
          · subst hjk; exact HC.out
          · exact HL.out j (by omega) hj
        case measure => simp [intOf]; omega
    · go_wp2
      go_ret
      exact ⟨ret_int (HN.out fun j hj => HL.out j (by omega) hj).symm, rfl⟩

theorem beq_nil_isEmpty (l : List UInt8) : (l == (⟨#[]⟩ : ByteArray).toList) = l.isEmpty := by
  rw [Lib.toList_data]
  cases l <;> rfl

set_option maxHeartbeats 800000 in
theorem rtoken_any (p t : ByteArray) (w : World) (hp : p.size ≤ maxLen) (ht : t.size ≤ maxLen) :
    Calls Tryz.prog 146 #[.string p, .string t] w fun e w' => e = .returned (.bool (tokenB p t)) ∧ ∃ n, w' = w.drewN n := by
  have HS := hid (And.intro hp ht)
  unfold maxLen at hp ht
  have kp := fun W => bar_any p W HS.out.1
  have kt := fun W => bar_any t W HS.out.2
  rcases ix_cases p.data.toList 124 with ⟨h1, _⟩ | ⟨j, h1, hj, _, _⟩
  · have hb := tokenB_bare t h1
    rw [h1] at kp
    have KP := hid kp
    rcases ix_cases t.data.toList 124 with ⟨h2, _⟩ | ⟨i, h2, hi, _, _⟩
    · rw [(tok_no h2).2] at hb
      rw [h2] at kt
      have KT := hid kt
      have HB := hid hb
      clear kp kt hb h1 h2
      go_enter Tryz.func146, Tryz.ntmps146
      go_wp2_with fail
      refine (KP.out _).mono ?_
      rintro e w' ⟨rfl, rfl⟩
      go_wp2_with fail
      refine (KT.out _).mono ?_
      rintro e w' ⟨rfl, rfl⟩
      go_wp2_with fail
      go_ret
      exact ⟨ret_bool HB.out.symm, 0, rfl⟩
    · have hi' : i < t.size := by simpa using hi
      rw [(tok_yes h2).2] at hb
      rw [h2] at kt
      have KT := hid kt
      have HB := hid hb
      clear kp kt hb h1 h2 hi
      have c1 : (0 : Int) ≤ ↑i := by omega
      have c2 : (↑i : Int) ≤ ↑t.size := by omega
      have c3 : (0 : Int) ≤ ↑i + 1 := by omega
      have c4 : (↑i + 1 : Int) ≤ ↑t.size := by omega
      go_enter Tryz.func146, Tryz.ntmps146
      go_wp2_with fail
      refine (KP.out _).mono ?_
      rintro e w' ⟨rfl, rfl⟩
      go_wp2_with fail
      refine (KT.out _).mono ?_
      rintro e w' ⟨rfl, rfl⟩
      go_wp2_with fail
      go_quiet (fail)
      go_wp2_with fail
      go_ret
      exact ⟨ret_bool HB.out.symm, _, rfl⟩
  · have hj' : j < p.size := by simpa using hj
    have hb := tokenB_bar t h1
    rw [(tok_yes h1).1, (tok_yes h1).2] at hb
    rw [h1] at kp
    have KP := hid kp
    have d1 : (0 : Int) ≤ ↑j := by omega
    have d2 : (↑j : Int) ≤ ↑p.size := by omega
    have d3 : (0 : Int) ≤ ↑j + 1 := by omega
    have d4 : (↑j + 1 : Int) ≤ ↑p.size := by omega
    rcases ix_cases t.data.toList 124 with ⟨h2, _⟩ | ⟨i, h2, hi, _, _⟩
    · rw [(tok_no h2).1, (tok_no h2).2, beq_nil_isEmpty] at hb
      rw [h2] at kt
      have KT := hid kt
      have HB := hid hb
      clear kp kt hb h1 h2 hj
      cases e1 : (p.extract 0 j).toList.isEmpty <;> cases e2 : (p.extract (j + 1) p.size).toList.isEmpty
      all_goals
        go_enter Tryz.func146, Tryz.ntmps146
        go_wp2_with fail
        refine (KP.out _).mono ?_
        rintro e w' ⟨rfl, rfl⟩
        go_wp2_with fail
        refine (KT.out _).mono ?_
        rintro e w' ⟨rfl, rfl⟩
        go_wp2_with fail
        go_ret
        exact ⟨ret_bool (by rw [HB.out, e1, e2]; simp), 0, rfl⟩
    · have hi' : i < t.size := by simpa using hi
      rw [(tok_yes h2).1, (tok_yes h2).2] at hb
      rw [h2] at kt
      have KT := hid kt
      have HB := hid hb
      clear kp kt hb h1 h2 hi hj
      have c1 : (0 : Int) ≤ ↑i := by omega
      have c2 : (↑i : Int) ≤ ↑t.size := by omega
      have c3 : (0 : Int) ≤ ↑i + 1 := by omega
      have c4 : (↑i + 1 : Int) ≤ ↑t.size := by omega
      cases e1 : ((p.extract 0 j).toList == (t.extract 0 i).toList) <;> cases e2 : (p.extract (j + 1) p.size).toList.isEmpty
      all_goals
        go_enter Tryz.func146, Tryz.ntmps146
        go_wp2_with fail
        refine (KP.out _).mono ?_
        rintro e w' ⟨rfl, rfl⟩
        go_wp2_with fail
        refine (KT.out _).mono ?_
        rintro e w' ⟨rfl, rfl⟩
        go_wp2_with fail
        go_quiet (fail)
        go_wp2_with fail
        go_ret
        exact ⟨ret_bool (by rw [HB.out, e1, e2]; simp), _, rfl⟩

end Go.Proofs.YticfpkodoghnnaaGreat

/-
  What terms mean; the contracts of the reference's begins, Holds and Match.
-/
namespace Go.Proofs.YticfpkodoghnnaaGreat
open Go.RowKit

/-- Does s begin with t? -/
def beginsB (s t : ByteArray) : Bool := decide (t.size ≤ s.size) && ((s.extract 0 t.size).toList == t.toList)

/-- Does a term hold of these texts? -/
def holdsT (x : Tm) (ts : List ByteArray) : Bool :=
  if x.2.1 = 1 then ts.any (tokenB x.2.2) else if x.2.1 = 2 then !ts.any (tokenB x.2.2) else if x.2.1 = 3 then ts.any (fun t => beginsB t x.2.2) else
  if x.2.1 = 4 then ts.any (fun t => ltB t x.2.2) else if x.2.1 = 5 then ts.any (fun t => ltB x.2.2 t) else if x.2.1 = 6 then decide (0 < ts.length) else if x.2.1 = 7 then decide (ts.length = 0) else false
def holdsM (x : Tm) (fs : List Fld) : Bool := holdsT x (textsOf fs x.1)
def matchM (p : List Tm) (fs : List Fld) : Bool := p.all fun x => holdsM x fs

set_option maxHeartbeats 1000000 in
theorem rbegins_any (s t : ByteArray) (w : World) (ht : t.size ≤ maxLen) :
    Calls Tryz.prog 147 #[.string s, .string t] w fun e w' => e = .returned (.bool (beginsB s t)) ∧ w' = w := by
  unfold maxLen at ht
  have HB : Hid (beginsB s t = (decide (t.size ≤ s.size) && ((s.extract 0 t.size).toList == t.toList))) := rfl
  by_cases h : t.size ≤ s.size
  · have hz : (t.size : Int) ≤ (s.size : Int) := by omega
    have h0 : (0 : Int) ≤ (t.size : Int) := by omega
    have hd : decide (t.size ≤ s.size) = true := decide_eq_true h
    have HV : Hid (beginsB s t = ((s.extract 0 t.size).toList == t.toList)) := by show _ = _; rw [HB.out, hd]; rfl
    clear hd
    go_enter Tryz.func147, Tryz.ntmps147
    go_wp2_with fail
    go_ret
    exact ⟨ret_bool HV.out.symm, rfl⟩
  · have hz : ¬ (t.size : Int) ≤ (s.size : Int) := by omega
    have HV : Hid (beginsB s t = false) := by show _ = _; rw [HB.out, decide_eq_false h]; rfl
    go_enter Tryz.func147, Tryz.ntmps147
    go_wp2_with fail
    go_ret
    exact ⟨ret_bool HV.out.symm, rfl⟩

theorem any_snocT {ts : List ByteArray} {f : ByteArray → Bool} {i : Nat} (h : i < ts.length) : (ts.take (i + 1)).any f = ((ts.take i).any f || f ts[i]) := by
  rw [List.take_succ_eq_append_getElem h, List.any_append]
  simp

theorem gtr_of (t x : ByteArray) : (!ltB t x && !(t.toList == x.toList)) = ltB x t := by
  rcases ltB_cases t x with h | h | h
  · rw [h, ltB_asymm h]; rfl
  · subst h; rw [ltB_irrefl]; simp
  · rw [h, ltB_asymm h, seq_false (fun e => by subst e; rw [ltB_irrefl] at h; cases h)]; rfl

set_option maxHeartbeats 8000000 in
set_option maxRecDepth 100000 in
theorem rholds_any (x : Tm) (v : Value) (d : List Fx) (w : World) (hv : IsXs w v d) (hf : FitX d) (hx : x.2.2.size ≤ maxLen) :
    Calls Tryz.prog 122 #[.agg #[.string x.1, .int .i64 x.2.1, .string x.2.2], v] w fun e w' => e = .returned (.bool (holdsM x (d.map Fx.fld))) ∧ Grown w w' := by
  obtain ⟨xf, xo, xt⟩ := x
  simp only at hx ⊢
  have hbox : Below w.heap.size w (w.alloc (.cells #[.string xf, .int .i64 xo, .string xt] 141)) := (Below.refl _ _).alloc (Nat.le_refl _) _
  have HT := hid (rtexts_any v xf d _ (hv.kept hbox) hf)
  have hfit : ∀ t ∈ textsOf (d.map Fx.fld) xf, t.size ≤ maxLen := fun t ht => by
    unfold textsOf at ht
    cases hfd : (d.map Fx.fld).find? fun f => decide (f.1 = xf) with
    | none => rw [hfd] at ht; simp at ht
    | some f =>
      rw [hfd] at ht
      obtain ⟨y, hy, rfl⟩ := List.mem_map.1 (List.mem_of_find?_eq_some hfd)
      exact (hf.2 y hy).2.2 t ht
  have hlen : (textsOf (d.map Fx.fld) xf).length ≤ maxLen := by
    unfold textsOf
    cases hfd : (d.map Fx.fld).find? fun f => decide (f.1 = xf) with
    | none => unfold maxLen; simp
    | some f =>
      obtain ⟨y, hy, rfl⟩ := List.mem_map.1 (List.mem_of_find?_eq_some hfd)
      exact (hf.2 y hy).2.1
  have HH : Hid (holdsM (xf, xo, xt) (d.map Fx.fld) = holdsT (xf, xo, xt) (textsOf (d.map Fx.fld) xf)) := rfl
  obtain ⟨ts, hts⟩ : ∃ ts, textsOf (d.map Fx.fld) xf = ts := ⟨_, rfl⟩
  rw [hts] at HT hfit hlen HH
  rw [HH.out]
  have HFT := hid hfit
  unfold maxLen at hlen
  have HXS := hid hx
  have HG1 : Hid (Grown w (w.alloc (.cells #[.string xf, .int .i64 xo, .string xt] 141))) := (Grown.refl _).alloc _
  clear hv hf hx hbox hfit hts HH
  have mixed := Tryz.mixed
  obtain ⟨W1, hW1⟩ : ∃ W1, w.alloc (.cells #[.string xf, .int .i64 xo, .string xt] 141) = W1 := ⟨_, rfl⟩
  have hbk : W1.heap[w.heap.size]? = some (.cells #[.string xf, .int .i64 xo, .string xt] 141 (0, 0)) := by rw [← hW1]; exact heap_alloc_new _ _
  have k0 : ∀ n, (W1.drewN n).cell? ⟨w.heap.size, 0, none⟩ = some (.string xf) := fun n => by rw [Lib.cell_of_heap (show (W1.drewN n).heap[w.heap.size]? = _ from hbk)]; rfl
  have k1 : ∀ n, (W1.drewN n).cell? ⟨w.heap.size, 1, none⟩ = some (.int .i64 xo) := fun n => by rw [Lib.cell_of_heap (show (W1.drewN n).heap[w.heap.size]? = _ from hbk)]; rfl
  have k2 : ∀ n, (W1.drewN n).cell? ⟨w.heap.size, 2, none⟩ = some (.string xt) := fun n => by rw [Lib.cell_of_heap (show (W1.drewN n).heap[w.heap.size]? = _ from hbk)]; rfl
  rw [hW1] at HT HG1
  have e0 : W1.cell? ⟨w.heap.size, 0, none⟩ = some (.string xf) := k0 0
  clear hbk
  go_enter Tryz.func122, Tryz.ntmps122
  go_wp2_with (first | (go_at_call 145; refine HT.out.mono ?_; rintro e w1 ⟨⟨pl, cl, rfl, tl⟩, rfl⟩))
  have HTL := hid tl
  clear tl
  go_loopg [6, 7, 8, 9, 10] ts.length (fun g v6 v7 v8 v9 vi ws => ∃ i n : Nat, vi = .int .i64 i ∧ i ≤ ts.length ∧ ts.length - i ≤ g ∧ v6 = .bool ((ts.take i).any (tokenB xt)) ∧ v7 = .bool ((ts.take i).any (fun t => beginsB t xt)) ∧ v8 = .bool ((ts.take i).any (fun t => ltB t xt)) ∧ v9 = .bool ((ts.take i).any (fun t => ltB xt t)) ∧ ws = w1.drewN n)
  case atStart => exact ⟨0, 0, rfl, by omega, by omega, by simp, by simp, by simp, by simp, rfl⟩
  case round =>
    obtain ⟨i, n, rfl, hi, hgk, rfl, rfl, rfl, rfl, rfl⟩ := hrel
    by_cases hlt : i < ts.length
    · have hltz : (i : Int) < (ts.length : Int) := by omega
      have hiz : (0 : Int) ≤ (i : Int) := by omega
      obtain ⟨bt, ot, rfl, hct⟩ : ∃ b off, pl = some ⟨b, off, none⟩ ∧ ∀ i, (h : i < ts.length) → w1.cell? ⟨b, off + i, none⟩ = some (.string ts[i]) := by
        rcases HTL.out with h | h
        · rw [h] at hlt; simp at hlt
        · exact h
      have H6 := hid (any_snocT (f := tokenB xt) hlt)
      have H7 := hid (any_snocT (f := fun t => beginsB t xt) hlt)
      have H8 := hid (any_snocT (f := fun t => ltB t xt) hlt)
      have H9 := hid (any_snocT (f := fun t => ltB xt t) hlt)
      have hts := HFT.out _ (List.getElem_mem hlt)
      have hkf : ∀ m, (w1.drewN m).cell? ⟨w.heap.size, 2, none⟩ = some (.string xt) ∧ (w1.drewN m).cell? ⟨bt, ot + i, none⟩ = some (.string ts[i]) := fun m => ⟨k2 m, hct i hlt⟩
      obtain ⟨t, ht⟩ : ∃ t, ts[i] = t := ⟨_, rfl⟩
      rw [ht] at hkf H6 H7 H8 H9 hts
      have KF := hid hkf
      have HTK := hid (fun W => rtoken_any xt t W HXS.out hts)
      have HBG := hid (fun W => rbegins_any t xt W HXS.out)
      obtain ⟨B6, hB6⟩ : ∃ B, (ts.take i).any (tokenB xt) = B := ⟨_, rfl⟩
      obtain ⟨B7, hB7⟩ : ∃ B, (ts.take i).any (fun t => beginsB t xt) = B := ⟨_, rfl⟩
      obtain ⟨B8, hB8⟩ : ∃ B, (ts.take i).any (fun t => ltB t xt) = B := ⟨_, rfl⟩
      obtain ⟨B9, hB9⟩ : ∃ B, (ts.take i).any (fun t => ltB xt t) = B := ⟨_, rfl⟩
      rw [hB6] at H6 ⊢
      rw [hB7] at H7 ⊢
      rw [hB8] at H8 ⊢
      rw [hB9] at H9 ⊢
      obtain ⟨L8, hL8⟩ : ∃ B, ltB t xt = B := ⟨_, rfl⟩
      obtain ⟨L9, hL9⟩ : ∃ B, ltB xt t = B := ⟨_, rfl⟩
      have hg9 := gtr_of t xt
      rw [hL8, hL9] at hg9
      have HG9 := hid hg9
      clear hg9
      rw [hL8] at H8
      rw [hL9] at H9
      have g8 := sless_of hL8
      have g9 := sless_of hL9
      obtain ⟨W, hW⟩ : ∃ W, w1.drewN n = W := ⟨_, rfl⟩
      obtain ⟨f2, ct⟩ := hkf n
      rw [hW] at f2 ct ⊢
      have HW := hid hW
      clear hB6 hB7 hB8 hB9 hct ht hkf hts hW hL8 hL9
      go_upto_region 6 with fail
      go_cut [6] from 15 to 60 (fun v wx => (∃ m, wx = w1.drewN m) ∧ v = .bool (B6 || tokenB xt t))
      case first =>
        cases B6 with
        | true =>
          refine wp_region_quiet_lit mixed (by kernel_rfl) ?_
          repeat (go_big_quiet_step (fail))
          refine wpQuiet_nil ?_
          intro _ hw'
          obtain ⟨nq, hw''⟩ := hw'
          subst hw''
          go_wp2_with fail
          go_meet
          case rel => exact ⟨⟨_, by rw [← HW.out, World.drewN_drewN]⟩, rfl⟩
        | false =>
          refine wp_region_quiet_lit mixed (by kernel_rfl) ?_
          repeat (go_big_quiet_step (first | (go_at_call 146; refine Calls.quiet_of (HTK.out _))))
          refine wpQuiet_nil ?_
          intro _ hw'
          obtain ⟨nq, hw''⟩ := hw'
          subst hw''
          go_wp2_with fail
          go_meet
          case rel => exact ⟨⟨_, by rw [← HW.out, World.drewN_drewN]⟩, rfl⟩
      case rest =>
      obtain ⟨⟨m6, rfl⟩, rfl⟩ := hcut
      clear f2 ct HW
      obtain ⟨W, hW⟩ : ∃ W, w1.drewN m6 = W := ⟨_, rfl⟩
      obtain ⟨f2, ct⟩ := KF.out m6
      rw [hW] at f2 ct ⊢
      have HW := hid hW
      clear hW
      go_upto_region 7 with fail
      go_cut [7] from 15 to 60 (fun v wx => (∃ m, wx = w1.drewN m) ∧ v = .bool (B7 || beginsB t xt))
      case first =>
        cases B7 with
        | true =>
          refine wp_region_quiet_lit mixed (by kernel_rfl) ?_
          repeat (go_big_quiet_step (fail))
          refine wpQuiet_nil ?_
          intro _ hw'
          obtain ⟨nq, hw''⟩ := hw'
          subst hw''
          go_wp2_with fail
          go_meet
          case rel => exact ⟨⟨_, by rw [← HW.out, World.drewN_drewN]⟩, rfl⟩
        | false =>
          refine wp_region_quiet_lit mixed (by kernel_rfl) ?_
          repeat (go_big_quiet_step (first | (go_at_call 147; refine Calls.quiet_of_same (HBG.out _))))
          refine wpQuiet_nil ?_
          intro _ hw'
          obtain ⟨nq, hw''⟩ := hw'
          subst hw''
          go_wp2_with fail
          go_meet
          case rel => exact ⟨⟨_, by rw [← HW.out, World.drewN_drewN]⟩, rfl⟩
      case rest =>
      obtain ⟨⟨m7, rfl⟩, rfl⟩ := hcut
      clear f2 ct HW
      obtain ⟨W, hW⟩ : ∃ W, w1.drewN m7 = W := ⟨_, rfl⟩
      obtain ⟨f2, ct⟩ := KF.out m7
      rw [hW] at f2 ct ⊢
      have HW := hid hW
      clear hW
      go_upto_region 8 with fail
      go_cut [8] from 15 to 60 (fun v wx => (∃ m, wx = w1.drewN m) ∧ v = .bool (B8 || L8))
      case first =>
        cases B8 with
        | true =>
          refine wp_region_quiet_lit mixed (by kernel_rfl) ?_
          repeat (go_big_quiet_step (fail))
          refine wpQuiet_nil ?_
          intro _ hw'
          obtain ⟨nq, hw''⟩ := hw'
          subst hw''
          go_wp2_with fail
          go_meet
          case rel => exact ⟨⟨_, by rw [← HW.out, World.drewN_drewN]⟩, rfl⟩
        | false =>
          refine wp_region_quiet_lit mixed (by kernel_rfl) ?_
          repeat (go_big_quiet_step (fail))
          refine wpQuiet_nil ?_
          intro _ hw'
          obtain ⟨nq, hw''⟩ := hw'
          subst hw''
          go_wp2_with fail
          go_meet
          case rel => exact ⟨⟨_, by rw [← HW.out, World.drewN_drewN]⟩, rfl⟩
      case rest =>
      obtain ⟨⟨m8, rfl⟩, rfl⟩ := hcut
      clear f2 ct HW
      obtain ⟨W, hW⟩ : ∃ W, w1.drewN m8 = W := ⟨_, rfl⟩
      obtain ⟨f2, ct⟩ := KF.out m8
      rw [hW] at f2 ct ⊢
      have HW := hid hW
      clear hW
      cases B9 with
      | true =>
        go_wp2_with fail
        refine wp_region_quiet_lit mixed (by kernel_rfl) ?_
        repeat (go_big_quiet_step (fail))
        refine wpQuiet_nil ?_
        intro _ hw'
        obtain ⟨nq, hw''⟩ := hw'
        subst hw''
        go_wp2_with fail
        go_roundg (ts.length - (i + 1))
        case measure => omega
        case rel => exact ⟨i + 1, m8 + nq, by go_num, by omega, by omega, by rw [H6.out], by rw [H7.out], by rw [H8.out], by rw [H9.out]; rfl, by rw [← HW.out, World.drewN_drewN]⟩
      | false =>
        go_wp2_with fail
        refine wp_region_quiet_lit mixed (by kernel_rfl) ?_
        repeat (go_big_quiet_step (fail))
        refine wpQuiet_nil ?_
        intro _ hw'
        obtain ⟨nq, hw''⟩ := hw'
        subst hw''
        go_wp2_with fail
        go_roundg (ts.length - (i + 1))
        case measure => omega
        case rel => exact ⟨i + 1, m8 + nq, by go_num, by omega, by omega, by rw [H6.out], by rw [H7.out], by rw [H8.out], by rw [H9.out, ← HG9.out]; rfl, by rw [← HW.out, World.drewN_drewN]⟩
    · have hltz : ¬ (i : Int) < (ts.length : Int) := by omega
      rw [List.take_of_length_le (by omega)]
      have e1 := k1 n
      have HHT : Hid (holdsT (xf, xo, xt) ts = if xo = 1 then ts.any (tokenB xt) else if xo = 2 then !ts.any (tokenB xt) else if xo = 3 then ts.any (fun t => beginsB t xt) else if xo = 4 then ts.any (fun t => ltB t xt) else if xo = 5 then ts.any (fun t => ltB xt t) else if xo = 6 then decide (0 < ts.length) else if xo = 7 then decide (ts.length = 0) else false) := rfl
      have HGR : Hid (Grown w (w1.drewN n)) := HG1.out.drewN n
      have z6 : decide ((0 : Int) < (ts.length : Int)) = decide (0 < ts.length) := by rw [decide_eq_decide]; omega
      have z7 : ((ts.length : Int) == 0) = decide (ts.length = 0) := by rw [Bool.eq_iff_iff, beq_iff_eq, decide_eq_true_iff]; omega
      have Z6 := hid z6
      have Z7 := hid z7
      clear z6 z7
      by_cases h1 : xo = 1
      · have HV := HHT.out
        rw [if_pos h1] at HV
        have HVV := hid HV
        subst h1
        clear HV HHT 
        go_wp2_with fail
        go_ret
        exact ⟨ret_bool (by rw [HVV.out]), HGR.out⟩
      have d1 : (xo == 1) = false := beq_eq_false_iff_ne.2 h1
      by_cases h2 : xo = 2
      · have HV := HHT.out
        rw [if_neg h1, if_pos h2] at HV
        have HVV := hid HV
        subst h2
        clear HV HHT h1
        go_wp2_with fail
        go_ret
        exact ⟨ret_bool (by rw [HVV.out]), HGR.out⟩
      have d2 : (xo == 2) = false := beq_eq_false_iff_ne.2 h2
      by_cases h3 : xo = 3
      · have HV := HHT.out
        rw [if_neg h1, if_neg h2, if_pos h3] at HV
        have HVV := hid HV
        subst h3
        clear HV HHT h1 h2
        go_wp2_with fail
        go_ret
        exact ⟨ret_bool (by rw [HVV.out]), HGR.out⟩
      have d3 : (xo == 3) = false := beq_eq_false_iff_ne.2 h3
      by_cases h4 : xo = 4
      · have HV := HHT.out
        rw [if_neg h1, if_neg h2, if_neg h3, if_pos h4] at HV
        have HVV := hid HV
        subst h4
        clear HV HHT h1 h2 h3
        go_wp2_with fail
        go_ret
        exact ⟨ret_bool (by rw [HVV.out]), HGR.out⟩
      have d4 : (xo == 4) = false := beq_eq_false_iff_ne.2 h4
      by_cases h5 : xo = 5
      · have HV := HHT.out
        rw [if_neg h1, if_neg h2, if_neg h3, if_neg h4, if_pos h5] at HV
        have HVV := hid HV
        subst h5
        clear HV HHT h1 h2 h3 h4
        go_wp2_with fail
        go_ret
        exact ⟨ret_bool (by rw [HVV.out]), HGR.out⟩
      have d5 : (xo == 5) = false := beq_eq_false_iff_ne.2 h5
      by_cases h6 : xo = 6
      · have HV := HHT.out
        rw [if_neg h1, if_neg h2, if_neg h3, if_neg h4, if_neg h5, if_pos h6] at HV
        have HVV := hid HV
        subst h6
        clear HV HHT h1 h2 h3 h4 h5
        go_wp2_with fail
        go_ret
        exact ⟨ret_bool (by rw [HVV.out]), HGR.out⟩
      have d6 : (xo == 6) = false := beq_eq_false_iff_ne.2 h6
      by_cases h7 : xo = 7
      · have HV := HHT.out
        rw [if_neg h1, if_neg h2, if_neg h3, if_neg h4, if_neg h5, if_neg h6, if_pos h7] at HV
        have HVV := hid HV
        subst h7
        clear HV HHT h1 h2 h3 h4 h5 h6
        go_wp2_with fail
        go_ret
        exact ⟨ret_bool (by rw [HVV.out]; first | rfl | exact Z7.out), HGR.out⟩
      have d7 : (xo == 7) = false := beq_eq_false_iff_ne.2 h7
      have HV := HHT.out
      rw [if_neg h1, if_neg h2, if_neg h3, if_neg h4, if_neg h5, if_neg h6, if_neg h7] at HV
      have HVV := hid HV
      clear HV HHT h1 h2 h3 h4 h5 h6 h7
      go_wp2_with fail
      go_ret
      exact ⟨ret_bool HVV.out.symm, HGR.out⟩

set_option maxHeartbeats 2000000 in
set_option maxRecDepth 100000 in
theorem rmatch_any (u v : Value) (p : List Tm) (d : List Fx) (w : World) (hu : KM.Is w u p) (hp : FitM p) (hv : IsXs w v d) (hf : FitX d) :
    Calls Tryz.prog 93 #[u, v] w fun e w' => e = .returned (.bool (matchM p (d.map Fx.fld))) ∧ Grown w w' := by
  obtain ⟨q, cap, rfl, hd⟩ := hu
  have hl := hp.1
  unfold maxLen at hl
  have HD := hid hd
  have HP := hid hp.2
  have HHO : Hid (∀ x ∈ p, ∀ W, Below w.heap.size w W → Calls Tryz.prog 122 #[.agg #[.string x.1, .int .i64 x.2.1, .string x.2.2], v] W fun e w' => e = .returned (.bool (holdsM x (d.map Fx.fld))) ∧ Grown W w') := fun x hx W hW => rholds_any x v d W (hv.kept hW) hf (hp.2 x hx).2.1
  obtain ⟨r, hr⟩ : ∃ r, matchM p (d.map Fx.fld) = r := ⟨_, rfl⟩
  rw [hr]
  have HR := hid hr
  clear hd hp hr hv hf
  go_enter Tryz.func93, Tryz.ntmps93
  go_wp2_with fail
  go_loopg [5] p.length (fun g vi ws => ∃ i : Nat, vi = .int .i64 i ∧ i ≤ p.length ∧ p.length - i ≤ g ∧ Hid (∀ j, (h : j < p.length) → j < i → holdsM p[j] (d.map Fx.fld) = true) ∧ Hid (Grown w ws))
  case atStart => exact ⟨0, rfl, by omega, by omega, fun j _ h => by omega, Grown.refl _⟩
  case round =>
    obtain ⟨i, rfl, hi, hgk, HJ, HG⟩ := hrel
    by_cases hlt : i < p.length
    · have hltz : (i : Int) < (p.length : Int) := by omega
      have hiz : (0 : Int) ≤ (i : Int) := by omega
      obtain ⟨b, off, rfl, hat⟩ : ∃ b off, q = some ⟨b, off, none⟩ ∧ KM.At w b off p := by
        rcases HD.out with h | h
        · subst h; simp at hlt
        · exact h
      obtain ⟨c0, c1, c2⟩ := km_cells (Kind.at_kept hat HG.out.below) i hlt
      have HC := hid (HHO.out _ (List.getElem_mem hlt) wr HG.out.below)
      cases hh : holdsM p[i] (d.map Fx.fld) with
      | false =>
        have H0 : Hid (r = false) := by
          show _ = _
          rw [← HR.out]
          unfold matchM
          rw [List.all_eq_false]
          exact ⟨p[i], List.getElem_mem hlt, by rw [hh]; simp⟩
        rw [hh] at HC
        generalize p[i] = x at c0 c1 c2 HC
        clear hat hh
        go_wp2_with (first | (go_at_call 122; refine HC.out.mono ?_; rintro e w2 ⟨rfl, g2⟩))
        go_ret
        exact ⟨ret_bool H0.out.symm, HG.out.trans g2⟩
      | true =>
        have HJ2 : Hid (∀ j, (h : j < p.length) → j < i + 1 → holdsM p[j] (d.map Fx.fld) = true) := fun j h hj => by
          by_cases e : j = i
          · subst e; exact hh
          · exact HJ.out j h (by omega)
        rw [hh] at HC
        generalize p[i] = x at c0 c1 c2 HC
        clear hat hh
        go_wp2_with (first | (go_at_call 122; refine HC.out.mono ?_; rintro e w2 ⟨rfl, g2⟩))
        go_roundg (p.length - (i + 1))
        case measure => omega
        case rel => exact ⟨i + 1, by go_num, by omega, by omega, HJ2, HG.out.trans g2⟩
    · have hltz : ¬ (i : Int) < (p.length : Int) := by omega
      have H0 : Hid (r = true) := by
        show _ = _
        rw [← HR.out]
        unfold matchM
        rw [List.all_eq_true]
        intro x hx
        obtain ⟨j, hj, rfl⟩ := List.mem_iff_getElem.1 hx
        exact HJ.out j hj (by omega)
      go_wp2_with fail
      go_ret
      exact ⟨ret_bool H0.out.symm, HG.out⟩

end Go.Proofs.YticfpkodoghnnaaGreat

/-
  The contracts of holds and Match.
-/
namespace Go.Proofs.YticfpkodoghnnaaGreat
open Go.RowKit Go.Lib

/-- A term in a block of its own. -/
def BoxM (w : World) (g : Nat) (x : Tm) : Prop := w.heap[g]? = some (.cells #[.string x.1, .int .i64 x.2.1, .string x.2.2] 141 (0, 0))
theorem BoxM.cells {w : World} {g : Nat} {x : Tm} (h : BoxM w g x) : w.cell? ⟨g, 0, none⟩ = some (.string x.1) ∧ w.cell? ⟨g, 1, none⟩ = some (.int .i64 x.2.1) ∧ w.cell? ⟨g, 2, none⟩ = some (.string x.2.2) := by
  rw [Lib.cell_of_heap h, Lib.cell_of_heap h, Lib.cell_of_heap h]
  exact ⟨rfl, rfl, rfl⟩
theorem BoxM.lt {w : World} {g : Nat} {x : Tm} (h : BoxM w g x) : g < w.heap.size := (Array.getElem?_eq_some_iff.1 h).1
theorem BoxM.on {w w' : World} {g : Nat} {x : Tm} (h : BoxM w g x) (hb : Below w.heap.size w w') : BoxM w' g x := (hb.block g h.lt).trans h
theorem boxM_new (w : World) (x : Tm) : BoxM (w.alloc (.cells #[.string x.1, .int .i64 x.2.1, .string x.2.2] 141)) w.heap.size x := heap_alloc_new w _

/-- What a term asks of a text. -/
def meetsT (x : Tm) (t : ByteArray) : Bool :=
  if x.2.1 = 1 ∨ x.2.1 = 2 then tokenB x.2.2 t else if x.2.1 = 3 then beginsB t x.2.2 else if x.2.1 = 4 then ltB t x.2.2 else if x.2.1 = 5 then ltB x.2.2 t else true

theorem begins_prefix (s t : ByteArray) : Lib.hasPrefix s.data.toList t.data.toList = beginsB s t := by
  unfold beginsB
  rw [toList_eq]
  by_cases h : t.size ≤ s.size
  · rw [decide_eq_true h, Bool.true_and]
    rw [Bool.eq_iff_iff, decide_eq_true_iff]
    have e : (s.extract 0 t.size).data.toList = s.data.toList.take t.size := by simp
    constructor
    · intro hp
      refine ba_eq ?_
      rw [e]
      have := List.prefix_iff_eq_take.1 (List.isPrefixOf_iff_prefix.1 hp)
      simpa using this.symm
    · intro he
      refine List.isPrefixOf_iff_prefix.2 ?_
      have : t.data.toList = s.data.toList.take t.size := by rw [← e, he]
      rw [this]
      exact List.take_prefix _ _
  · rw [decide_eq_false h, Bool.false_and, Bool.eq_false_iff]
    intro hp
    have := (List.isPrefixOf_iff_prefix.1 hp).length_le
    simp at this
    exact h this

/-- A text that a machine can hold. -/
def Bt : Type := { t : ByteArray // t.size ≤ maxLen }

theorem hasT_any (f : ByteArray → Bool) (k : Nat) (lb : Array Value) (ent : ∀ args w, (callFunc k args).run Tryz.prog w = .ok (.enter k args) w) (p : Option Addr) (cap : Nat) (ts : List ByteArray) (w : World) (h : TxtAt w p ts) (hf : FitT ts)
    (hk : ∀ (W : World) (t : ByteArray), Below w.heap.size w W → t.size ≤ maxLen → Calls Tryz.prog k (#[.string t] ++ lb) W fun e w' => e = .returned (.bool (f t)) ∧ ∃ q, w' = W.drewN q) :
    Calls Tryz.prog 121 #[.slice p ts.length cap, .func (.func k) #[] lb] w fun e w' => e = .returned (.bool (ts.any f)) ∧ ∃ q, w' = w.drewN q := by
  rcases h with rfl | ⟨b, off, rfl, hc⟩
  · refine (Tryz.slices_ContainsFunc_empty (α := ByteArray) p cap _ w).mono ?_
    rintro e w' ⟨rfl, rfl⟩
    exact ⟨rfl, 0, rfl⟩
  · have hl := hf.1
    unfold maxLen at hl
    obtain ⟨zs, hzs⟩ : ∃ zs : List Bt, zs.map (·.1) = ts := ⟨ts.attachWith _ hf.2, List.attachWith_map_subtype_val ..⟩
    have hzl : zs.length = ts.length := by rw [← hzs, List.length_map]
    letI : Inhabited Bt := ⟨⟨⟨#[]⟩, Nat.zero_le _⟩⟩
    refine (Tryz.slices_ContainsFunc (fun t : Bt => Value.string t.1) (fun t => f t.1) k lb ent b off ts.length cap zs w (fun W x hb => hk W x.1 hb x.2) (by omega) (by omega) ?_).mono ?_
    · intro j hj
      rw [getElem!_pos zs j hj]
      have e : (zs[j]).1 = ts[j]'(by omega) := by subst hzs; simp
      rw [e]
      exact hc j (by omega)
    · rintro e w' ⟨rfl, hq⟩
      refine ⟨ret_bool ?_, hq⟩
      rw [List.take_of_length_le (by omega), ← hzs]
      simp [List.any_map, Function.comp_def]

theorem enters_h1 : ∀ args w, (callFunc 114 args).run Tryz.prog w = .ok (.enter 114 args) w := enters_of Tryz.func114 (by kernel_rfl) rfl
theorem enters_h2 : ∀ args w, (callFunc 116 args).run Tryz.prog w = .ok (.enter 116 args) w := enters_of Tryz.func116 (by kernel_rfl) rfl
theorem enters_h3 : ∀ args w, (callFunc 118 args).run Tryz.prog w = .ok (.enter 118 args) w := enters_of Tryz.func118 (by kernel_rfl) rfl
theorem enters_h4 : ∀ args w, (callFunc 119 args).run Tryz.prog w = .ok (.enter 119 args) w := enters_of Tryz.func119 (by kernel_rfl) rfl
theorem enters_h5 : ∀ args w, (callFunc 120 args).run Tryz.prog w = .ok (.enter 120 args) w := enters_of Tryz.func120 (by kernel_rfl) rfl

set_option maxHeartbeats 1000000 in
theorem h1_any (g : Nat) (x : Tm) (t : ByteArray) (W : World) (hb : BoxM W g x) (hx : x.2.2.size ≤ maxLen) (ht : t.size ≤ maxLen) :
    Calls Tryz.prog 114 #[.string t, .pointer (some ⟨g, 0, none⟩)] W fun e w' => e = .returned (.bool (tokenB x.2.2 t)) ∧ ∃ q, w' = W.drewN q := by
  obtain ⟨_, _, c2⟩ := hb.cells
  have HX := hid hx
  have HT := hid ht
  clear hb hx ht
  go_enter Tryz.func114, Tryz.ntmps114
  go_wp2_with (go_at_call 115; refine (Token_any _ _ _ HX.out HT.out).mono ?_; rintro e w1 ⟨rfl, n, rfl⟩)
  go_ret
  exact ⟨rfl, n, rfl⟩

set_option maxHeartbeats 1000000 in
theorem h2_any (g : Nat) (x : Tm) (t : ByteArray) (W : World) (hb : BoxM W g x) :
    Calls Tryz.prog 116 #[.string t, .pointer (some ⟨g, 0, none⟩)] W fun e w' => e = .returned (.bool (beginsB t x.2.2)) ∧ ∃ q, w' = W.drewN q := by
  obtain ⟨_, _, c2⟩ := hb.cells
  have HE := hid (begins_prefix t x.2.2)
  clear hb
  go_enter Tryz.func116, Tryz.ntmps116
  go_wp2_with (go_at_call 117; refine (Tryz.strings_HasPrefix _ _ _).mono ?_; rintro e w1 ⟨rfl, rfl⟩)
  go_ret
  exact ⟨ret_bool HE.out, 0, rfl⟩

set_option maxHeartbeats 1000000 in
theorem h3_any (g : Nat) (x : Tm) (t : ByteArray) (W : World) (hb : BoxM W g x) :
    Calls Tryz.prog 118 #[.string t, .pointer (some ⟨g, 0, none⟩)] W fun e w' => e = .returned (.bool (ltB t x.2.2)) ∧ ∃ q, w' = W.drewN q := by
  obtain ⟨_, _, c2⟩ := hb.cells
  have HE := hid (sless_of (rfl : ltB t x.2.2 = _))
  clear hb
  go_enter Tryz.func118, Tryz.ntmps118
  go_wp2_with fail
  go_ret
  exact ⟨ret_bool HE.out, 0, rfl⟩

set_option maxHeartbeats 1000000 in
theorem h4_any (g : Nat) (x : Tm) (t : ByteArray) (W : World) (hb : BoxM W g x) :
    Calls Tryz.prog 119 #[.string t, .pointer (some ⟨g, 0, none⟩)] W fun e w' => e = .returned (.bool (ltB x.2.2 t)) ∧ ∃ q, w' = W.drewN q := by
  obtain ⟨_, _, c2⟩ := hb.cells
  have HE := hid (gtr_of t x.2.2)
  have HL := hid (sless_of (rfl : ltB t x.2.2 = _))
  clear hb
  go_enter Tryz.func119, Tryz.ntmps119
  go_wp2_with fail
  go_ret
  refine ⟨ret_bool ?_, 0, rfl⟩
  rw [← HE.out, HL.out]

set_option maxHeartbeats 1000000 in
theorem h5_any (t : ByteArray) (W : World) :
    Calls Tryz.prog 120 #[.string t] W fun e w' => e = .returned (.bool true) ∧ ∃ q, w' = W.drewN q := by
  go_enter Tryz.func120, Tryz.ntmps120
  go_wp2_with fail
  go_ret
  exact ⟨rfl, 0, rfl⟩

theorem any_true (ts : List ByteArray) : ts.any (fun _ => true) = decide (0 < ts.length) := by
  cases ts <;> simp

set_option maxHeartbeats 4000000 in
set_option maxRecDepth 100000 in
theorem pholds_any (x : Tm) (p : Option Addr) (cap : Nat) (ts : List ByteArray) (w : World) (h : TxtAt w p ts) (hf : FitT ts) (hx : x.2.2.size ≤ maxLen) :
    Calls Tryz.prog 91 #[.agg #[.string x.1, .int .i64 x.2.1, .string x.2.2], .slice p ts.length cap] w fun e w' => e = .returned (.bool (holdsT x ts)) ∧ Grown w w' := by
  obtain ⟨W, hW⟩ : ∃ W, w.alloc (.cells #[.string x.1, .int .i64 x.2.1, .string x.2.2] 141) = W := ⟨_, rfl⟩
  have hbw : Below w.heap.size w W := by rw [← hW]; exact (Below.refl _ _).alloc (Nat.le_refl _) _
  have HG : Hid (Grown w W) := by rw [← hW]; exact (Grown.refl _).alloc _
  have hbox : BoxM W w.heap.size x := by rw [← hW]; exact boxM_new w x
  have hmf : ∀ (fn : Fn) (first cap : Array Value) (w : World), (Instr.makeFunc fn first cap).run Tryz.prog w = .ok (.func fn first cap) w := fun _ _ _ _ => rfl
  have H1 := hid (hasT_any (tokenB x.2.2) 114 #[.pointer (some ⟨w.heap.size, 0, none⟩)] enters_h1 p cap ts W (h.kept hbw) hf (fun V t hb ht => h1_any w.heap.size x t V (hbox.on hb) hx ht))
  have H2 := hid (hasT_any (fun t => beginsB t x.2.2) 116 #[.pointer (some ⟨w.heap.size, 0, none⟩)] enters_h2 p cap ts W (h.kept hbw) hf (fun V t hb ht => h2_any w.heap.size x t V (hbox.on hb)))
  have H3 := hid (hasT_any (fun t => ltB t x.2.2) 118 #[.pointer (some ⟨w.heap.size, 0, none⟩)] enters_h3 p cap ts W (h.kept hbw) hf (fun V t hb ht => h3_any w.heap.size x t V (hbox.on hb)))
  have H4 := hid (hasT_any (fun t => ltB x.2.2 t) 119 #[.pointer (some ⟨w.heap.size, 0, none⟩)] enters_h4 p cap ts W (h.kept hbw) hf (fun V t hb ht => h4_any w.heap.size x t V (hbox.on hb)))
  have H5 := hid (hasT_any (fun _ => true) 120 #[] enters_h5 p cap ts W (h.kept hbw) hf (fun V t hb ht => h5_any t V))
  obtain ⟨c0, c1, c2⟩ := hbox.cells
  obtain ⟨r, hr⟩ : ∃ r, holdsT x ts = r := ⟨_, rfl⟩
  rw [hr]
  have HR := hid hr
  obtain ⟨xf, xo, xt⟩ := x
  simp only at hW c0 c1 c2 H1 H2 H3 H4
  unfold holdsT at HR
  simp only at HR
  rw [any_true] at H5
  obtain ⟨B1, hB1⟩ : ∃ B, ts.any (tokenB xt) = B := ⟨_, rfl⟩
  rw [hB1] at H1 HR
  obtain ⟨B2, hB2⟩ : ∃ B, ts.any (fun t => beginsB t xt) = B := ⟨_, rfl⟩
  rw [hB2] at H2 HR
  obtain ⟨B3, hB3⟩ : ∃ B, ts.any (fun t => ltB t xt) = B := ⟨_, rfl⟩
  rw [hB3] at H3 HR
  obtain ⟨B4, hB4⟩ : ∃ B, ts.any (fun t => ltB xt t) = B := ⟨_, rfl⟩
  rw [hB4] at H4 HR
  have e7 : decide (ts.length = 0) = !decide (0 < ts.length) := by cases ts <;> simp
  rw [e7] at HR
  obtain ⟨B5, hB5⟩ : ∃ B, decide (0 < ts.length) = B := ⟨_, rfl⟩
  rw [hB5] at H5 HR
  clear hr h hf hx hbox hbw hB1 hB2 hB3 hB4 hB5 e7
  by_cases hr7 : 1 ≤ xo ∧ xo ≤ 7
  · rcases (show xo = 1 ∨ xo = 2 ∨ xo = 3 ∨ xo = 4 ∨ xo = 5 ∨ xo = 6 ∨ xo = 7 by omega) with rfl | rfl | rfl | rfl | rfl | rfl | rfl
    · have HV : Hid (B1 = r) := by have := HR.out; show B1 = r; simpa using this
      go_enter Tryz.func91, Tryz.ntmps91
      go_wp2_with (go_at_call 121; refine H1.out.mono ?_; rintro e w1 ⟨rfl, n, rfl⟩)
      go_ret
      refine ⟨ret_bool ?_, HG.out.drewN n⟩
      rw [← HV.out]
    · have HV : Hid ((!B1) = r) := by have := HR.out; show (!B1) = r; simpa using this
      go_enter Tryz.func91, Tryz.ntmps91
      go_wp2_with (go_at_call 121; refine H1.out.mono ?_; rintro e w1 ⟨rfl, n, rfl⟩)
      go_ret
      refine ⟨ret_bool ?_, HG.out.drewN n⟩
      rw [← HV.out]
    · have HV : Hid (B2 = r) := by have := HR.out; show B2 = r; simpa using this
      go_enter Tryz.func91, Tryz.ntmps91
      go_wp2_with (go_at_call 121; refine H2.out.mono ?_; rintro e w1 ⟨rfl, n, rfl⟩)
      go_ret
      refine ⟨ret_bool ?_, HG.out.drewN n⟩
      rw [← HV.out]
    · have HV : Hid (B3 = r) := by have := HR.out; show B3 = r; simpa using this
      go_enter Tryz.func91, Tryz.ntmps91
      go_wp2_with (go_at_call 121; refine H3.out.mono ?_; rintro e w1 ⟨rfl, n, rfl⟩)
      go_ret
      refine ⟨ret_bool ?_, HG.out.drewN n⟩
      rw [← HV.out]
    · have HV : Hid (B4 = r) := by have := HR.out; show B4 = r; simpa using this
      go_enter Tryz.func91, Tryz.ntmps91
      go_wp2_with (go_at_call 121; refine H4.out.mono ?_; rintro e w1 ⟨rfl, n, rfl⟩)
      go_ret
      refine ⟨ret_bool ?_, HG.out.drewN n⟩
      rw [← HV.out]
    · have HV : Hid (B5 = r) := by have := HR.out; show B5 = r; simpa using this
      go_enter Tryz.func91, Tryz.ntmps91
      go_wp2_with (go_at_call 121; refine H5.out.mono ?_; rintro e w1 ⟨rfl, n, rfl⟩)
      go_ret
      refine ⟨ret_bool ?_, HG.out.drewN n⟩
      rw [← HV.out]
    · have HV : Hid ((!B5) = r) := by have := HR.out; show (!B5) = r; simpa using this
      go_enter Tryz.func91, Tryz.ntmps91
      go_wp2_with (go_at_call 121; refine H5.out.mono ?_; rintro e w1 ⟨rfl, n, rfl⟩)
      go_ret
      refine ⟨ret_bool ?_, HG.out.drewN n⟩
      rw [← HV.out]
  · have HV : Hid (false = r) := by
      have := HR.out
      rw [if_neg (by omega), if_neg (by omega), if_neg (by omega), if_neg (by omega), if_neg (by omega), if_neg (by omega), if_neg (by omega)] at this
      exact this
    have n1 : (xo == 1) = false := by simp; omega
    have n2 : (xo == 2) = false := by simp; omega
    have n3 : (xo == 3) = false := by simp; omega
    have n4 : (xo == 4) = false := by simp; omega
    have n5 : (xo == 5) = false := by simp; omega
    have n6 : (xo == 6) = false := by simp; omega
    have n7 : (xo == 7) = false := by simp; omega
    clear hr7
    go_enter Tryz.func91, Tryz.ntmps91
    go_wp2_with fail
    go_ret
    exact ⟨ret_bool HV.out, HG.out⟩

set_option maxHeartbeats 8000000 in
set_option maxRecDepth 100000 in
theorem pmatch_any (u v : Value) (p : List Tm) (d : List Fx) (w : World) (hu : KM.Is w u p) (hp : FitM p) (hv : IsXs w v d) (hf : FitX d) (h16 : ∀ x ∈ d, x.txt.length * 16 ≤ 140737488355328) :
    Calls Tryz.prog 65 #[u, v] w fun e w' => e = .returned (.bool (matchM p (d.map Fx.fld))) ∧ Below w.heap.size w w' := by
  obtain ⟨q, cap, rfl, hd⟩ := hu
  have hl := hp.1
  unfold maxLen at hl
  have HD := hid hd
  have HV := hid hv
  have HF := hid hf
  have HP := hid hp
  have H16 := hid h16
  obtain ⟨r, hr⟩ : ∃ r, matchM p (d.map Fx.fld) = r := ⟨_, rfl⟩
  rw [hr]
  have HR := hid hr
  clear hd hv hf hp h16 hr
  go_enter Tryz.func65, Tryz.ntmps65
  go_wp2_with fail
  go_loopg [9] p.length (fun g vi wr => ∃ i : Nat, vi = .int .i64 i ∧ i ≤ p.length ∧ p.length - i ≤ g ∧ Below w.heap.size w wr ∧ Hid (∀ j (h : j < p.length), j < i → holdsM p[j] (d.map Fx.fld) = true))
  case atStart => exact ⟨0, rfl, by omega, by omega, Below.refl _ _, fun j _ h => by omega⟩
  case round =>
    obtain ⟨i, rfl, hi, hg, hb, HJ⟩ := hrel
    by_cases hlt : i < p.length
    · have hltz : (i : Int) < (p.length : Int) := by omega
      have hiz : (0 : Int) ≤ i := by omega
      obtain ⟨b, off, rfl, hat⟩ : ∃ b off, q = some ⟨b, off, none⟩ ∧ KM.At w b off p := by
        rcases HD.out with h | h
        · rw [h] at hlt; simp at hlt
        · exact h
      obtain ⟨c0, c1, c2⟩ := km_cells (Kind.at_kept hat hb) i hlt
      have hfx := HP.out.2 _ (List.getElem_mem hlt)
      have hno : holdsM p[i] (d.map Fx.fld) = false → r = false := fun h => by
        rw [← HR.out]
        unfold matchM
        rw [List.all_eq_false]
        exact ⟨_, List.getElem_mem hlt, by rw [h]; simp⟩
      have hyes : holdsM p[i] (d.map Fx.fld) = true → ∀ j (h : j < p.length), j < i + 1 → holdsM p[j] (d.map Fx.fld) = true := fun e j h hj => by
        by_cases ej : j = i
        · subst ej; exact e
        · exact HJ.out j h (by omega)
      obtain ⟨x, hx⟩ : ∃ x, p[i] = x := ⟨_, rfl⟩
      rw [hx] at c0 c1 c2 hfx hno hyes
      have HNO := hid hno
      have HYES := hid hyes
      have HB := hid hb
      have hsz := hb.size
      obtain ⟨xf, xo, xt⟩ := x
      simp only at c0 c1 c2 hfx
      clear hat hx hno hyes hb
      go_wp2_with fail
      obtain ⟨F, hF⟩ : ∃ F, wr.heap.size = F := ⟨_, rfl⟩
      obtain ⟨W, hW⟩ : ∃ W, wr.alloc (.cells #[.string xf, .int .i64 xo, .string xt] 141) = W := ⟨_, rfl⟩
      have hbox : BoxM W F (xf, xo, xt) := by rw [← hW, ← hF]; exact boxM_new wr (xf, xo, xt)
      have hbW : Below w.heap.size w W := by rw [← hW]; exact HB.out.alloc hsz _
      have HBW := hid hbW
      have HT := hid (texts_any v xf d W.drew (HV.out.kept hbW.drew) HF.out H16.out)
      have hFl : F < W.heap.size := hbox.lt
      have q0 : W.drew.cell? ⟨F, 0, none⟩ = some (.string xf) ∧ W.drew.cell? ⟨F, 1, none⟩ = some (.int .i64 xo) ∧ W.drew.cell? ⟨F, 2, none⟩ = some (.string xt) := hbox.cells
      have KS : Hid (∀ w' : World, Below W.drew.heap.size W.drew w' → w'.cell? ⟨F, 0, none⟩ = some (.string xf) ∧ w'.cell? ⟨F, 1, none⟩ = some (.int .i64 xo) ∧ w'.cell? ⟨F, 2, none⟩ = some (.string xt)) := fun w' h => (BoxM.on (w := W.drew) hbox h).cells
      have HTF : Hid (FitT (textsOf (d.map Fx.fld) xf)) := by
        show FitT _
        unfold textsOf
        cases hfd : (d.map Fx.fld).find? (fun f => decide (f.1 = xf)) with
        | none => exact ⟨Nat.zero_le _, fun t ht => by simp at ht⟩
        | some f =>
          obtain ⟨y, hy, rfl⟩ := List.mem_map.1 (List.mem_of_find?_eq_some hfd)
          exact (HF.out.2 y hy).2
      obtain ⟨ts, hts⟩ : ∃ ts, textsOf (d.map Fx.fld) xf = ts := ⟨_, rfl⟩
      rw [hts] at HT HTF
      have HXT : Hid (holdsM (xf, xo, xt) (d.map Fx.fld) = holdsT (xf, xo, xt) ts) := by show _ = _; unfold holdsM; rw [hts]
      clear hts hbox hbW
      rw [hF, hW]
      clear hF hW
      cases hB : holdsT (xf, xo, xt) ts with
      | true =>
        have HX : Hid (holdsM (xf, xo, xt) (d.map Fx.fld) = true) := by show _ = _; rw [HXT.out, hB]
        have HHD : Hid (∀ (W5 : World) p5 c5, TxtAt W5 p5 ts → Calls Tryz.prog 91 #[.agg #[.string xf, .int .i64 xo, .string xt], .slice p5 ts.length c5] W5 fun e w' => e = .returned (.bool true) ∧ Grown W5 w') := fun W5 p5 c5 h => by
          have := pholds_any (xf, xo, xt) p5 c5 ts W5 h HTF.out hfx.2.1
          rwa [hB] at this
        clear hB
        go_region_held3 (fun w' => w'.cell? ⟨F, 0, none⟩ = some (.string xf) ∧ w'.cell? ⟨F, 1, none⟩ = some (.int .i64 xo) ∧ w'.cell? ⟨F, 2, none⟩ = some (.string xt))
          (first | exact q0 | exact q5 | exact q6)
          (first
            | (go_at_call 92; refine HT.out.mono ?_; rintro e w5 ⟨⟨sv, rfl, hot5⟩, hb5⟩; obtain ⟨pc, capc, rfl⟩ := own_slice hot5; have q5 := KS.out w5 hb5; have htx5 := OwnT.txtAt hot5)
            | (go_at_call 91; refine (HHD.out _ _ _ htx5).mono ?_; rintro e w6 ⟨rfl, hg6⟩; have q6 := KS.out w6 (hb5.trans (hg6.below.mono hb5.size))))
        have hb6 : Below w.heap.size w w6 := (HBW.out.drew.trans (hb5.mono (by simpa using HBW.out.size))).trans (hg6.below.mono (Nat.le_trans (by simpa using HBW.out.size) hb5.size))
        have HB6 := hid hb6
        clear hb6 hg6 hb5 hot5 htx5 q5 q6 q0
        go_wp2_with fail
        go_roundg (p.length - (i + 1))
        case measure => omega
        exact ⟨i + 1, by go_num, by omega, by omega, HB6.out, HYES.out HX.out⟩
      | false =>
        have HX : Hid (holdsM (xf, xo, xt) (d.map Fx.fld) = false) := by show _ = _; rw [HXT.out, hB]
        have HHD : Hid (∀ (W5 : World) p5 c5, TxtAt W5 p5 ts → Calls Tryz.prog 91 #[.agg #[.string xf, .int .i64 xo, .string xt], .slice p5 ts.length c5] W5 fun e w' => e = .returned (.bool false) ∧ Grown W5 w') := fun W5 p5 c5 h => by
          have := pholds_any (xf, xo, xt) p5 c5 ts W5 h HTF.out hfx.2.1
          rwa [hB] at this
        clear hB
        go_region_held3 (fun w' => w'.cell? ⟨F, 0, none⟩ = some (.string xf) ∧ w'.cell? ⟨F, 1, none⟩ = some (.int .i64 xo) ∧ w'.cell? ⟨F, 2, none⟩ = some (.string xt))
          (first | exact q0 | exact q5 | exact q6)
          (first
            | (go_at_call 92; refine HT.out.mono ?_; rintro e w5 ⟨⟨sv, rfl, hot5⟩, hb5⟩; obtain ⟨pc, capc, rfl⟩ := own_slice hot5; have q5 := KS.out w5 hb5; have htx5 := OwnT.txtAt hot5)
            | (go_at_call 91; refine (HHD.out _ _ _ htx5).mono ?_; rintro e w6 ⟨rfl, hg6⟩; have q6 := KS.out w6 (hb5.trans (hg6.below.mono hb5.size))))
        have hb6 : Below w.heap.size w w6 := (HBW.out.drew.trans (hb5.mono (by simpa using HBW.out.size))).trans (hg6.below.mono (Nat.le_trans (by simpa using HBW.out.size) hb5.size))
        have HB6 := hid hb6
        clear hb6 hg6 hb5 hot5 htx5 q5 q6 q0
        go_wp2_with fail
        go_ret
        exact ⟨ret_bool (HNO.out HX.out).symm, HB6.out⟩
    · have hltz : ¬ (i : Int) < (p.length : Int) := by omega
      have H0 : Hid (r = true) := by
        show _ = _
        rw [← HR.out]
        unfold matchM
        rw [List.all_eq_true]
        intro x hx
        obtain ⟨j, hj, rfl⟩ := List.mem_iff_getElem.1 hx
        exact HJ.out j hj (by omega)
      go_wp2_with fail
      go_ret
      exact ⟨ret_bool H0.out.symm, hb⟩

end Go.Proofs.YticfpkodoghnnaaGreat

/-
  One more appended to a row of one's own, of whatever kind; nothing older turns. No program.
-/
namespace Go.Proofs.YticfpkodoghnnaaGreat
open Go.RowKit

/-- v owns the row l, in a block from N on; ahead of N all is as in W. -/
structure RowSt {α : Type} (K : Kind α) (N : Nat) (W : World) (v : Value) (l : List α) (w : World) : Prop where
  own : K.Own N w v l
  bel : Below N W w
  base : N ≤ w.heap.size

theorem below_grown {N : Nat} {W w w' : World} {ob : Option Nat} (hb : Below N W w) (hg : w.grownBy w' ob) (ho : ∀ k, ob = some k → N ≤ k) (hN : N ≤ w.heap.size) : Below N W w' :=
  hb.trans ⟨hg.os, hg.tape, hg.output, hg.size, fun k hk => hg.block k (by omega) fun e => by have := ho k e.symm; omega⟩

section
variable {α : Type} {K : Kind α} {N : Nat} {W : World} {v : Value} {l : List α} {w : World}
theorem RowSt.nil (K : Kind α) (hb : Below N W w) (hN : N ≤ w.heap.size) : RowSt K N W (.slice none 0 0) [] w := ⟨Kind.own_nil _ _ _, hb, hN⟩
theorem RowSt.on {w' : World} (h : RowSt K N W v l w) (hb : Below w.heap.size w w') : RowSt K N W v l w' := ⟨Kind.own_on h.own hb, h.bel.trans (hb.mono h.base), Nat.le_trans h.base hb.size⟩
theorem RowSt.is (h : RowSt K N W v l w) : K.Is w v l := Kind.own_is h.own

theorem RowSt.push {g cap : Nat} {w' : World} {x : α} (h : RowSt K N W v l w) (ho : w'.ownsRow N K.T K.k (.slice (some ⟨g, 0, none⟩) (l.length + 1) cap) (l.length + 1) (K.cells l ++ K.cells [x])) (hg : w.grownBy w' v.ownBlock) : RowSt K N W (.slice (some ⟨g, 0, none⟩) (l.length + 1) cap) (l ++ [x]) w' :=
  ⟨Kind.own_snoc ho rfl rfl, below_grown h.bel hg (fun k hk => (World.ownsRow.lt h.own k hk).1) h.base, Nat.le_trans h.base hg.size⟩
end

theorem news_box {α : Type} (K : Kind α) {w : World} {B : Nat} {x : α} {t : TypeId} {fz : Nat × Nat} (h : w.heap[B]? = some (.cells (K.enc x).toArray t fz)) : ∀ j u, (K.cells [x])[j]? = some u → w.cell? ((⟨B, 0, none⟩ : Addr).add j) = some u := fun j u hu => by
  rw [K.cells_one] at hu
  exact World.news_of_block h j u (by simpa using hu)

section
variable {P : Program} {α : Type} {w : World} {ops : Array Oper} {rest : List Oper} {o : Oper} {a : Act} {Q : Exit → Act → World → Prop}

/-- 'l = append(l, x)' outside a region that draws. -/
theorem wpList_push (K : Kind α) (hgd : o.guard = none) (s x : Operand) (t : TypeId) (ho : o.op = .call { callee := .builtin .append, args := #[s, x], argTypes := #[t, t] })
    (i : TypeInfo) (z : Value) (bytes : Nat) (ht : P.underlying t = some (.slice K.T)) (hi : P.info? K.T = some i) (hz : i.zero = some z) (hsize : i.size = K.k) (hby : i.bytes = bytes) (hzs : z.cells.size = K.k)
    (N : Nat) (W : World) (v : Value) (l : List α) (hs : a.eval s = v) (hst : RowSt K N W v l w) (y : α) (B m c : Nat) (hm : m = 1) (hx : a.eval x = .slice (some ⟨B, 0, none⟩) m c) (te : TypeId) (fz : Nat × Nat) (hB : w.heap[B]? = some (.cells (K.enc y).toArray te fz))
    (hlen : l.length + 1 ≤ maxLen) (hbytes : (l.length + 1) * bytes ≤ 140737488355328)
    (h : ∀ g cap w', RowSt K N W (.slice (some ⟨g, 0, none⟩) (l.length + 1) cap) (l ++ [y]) w' → w.grownBy w' v.ownBlock → (v.ownBlock = some g ∨ g = w.heap.size) → wpList P ops Q rest (a.put o.dst (.slice (some ⟨g, 0, none⟩) (l.length + 1) cap)) w') : wpList P ops Q (o :: rest) a w := by
  subst hm
  refine wpList_append_lies _ hgd s x t ho N K.T i z K.k bytes ht hi hz hsize hby hzs K.pos v l.length (K.cells l) hs hst.own ⟨B, 0, none⟩ 1 c (K.cells [y]) hx ?_ (news_box K hB) (K.cells_ones _) (by decide) hlen hbytes hst.base _ rfl ?_
  · rw [K.cells_len]; rfl
  · exact fun g cap w' h1 h2 h3 _ => h g cap w' (hst.push h1 h2) h2 h3

/-- 'l = append(l, x)' at a step of a region that draws. -/
theorem step_push {Kx : Act → World → Prop} {E : Prop} (K : Kind α) (hgd : o.guard = none) (s x : Operand) (t : TypeId) (ho : o.op = .call { callee := .builtin .append, args := #[s, x], argTypes := #[t, t] })
    (i : TypeInfo) (z : Value) (bytes : Nat) (ht : P.underlying t = some (.slice K.T)) (hi : P.info? K.T = some i) (hz : i.zero = some z) (hsize : i.size = K.k) (hby : i.bytes = bytes) (hzs : z.cells.size = K.k)
    (N : Nat) (W : World) (v : Value) (l : List α) (hs : a.eval s = v) (hst : RowSt K N W v l w) (y : α) (B m c : Nat) (hm : m = 1) (hx : a.eval x = .slice (some ⟨B, 0, none⟩) m c) (te : TypeId) (fz : Nat × Nat) (hB : w.heap[B]? = some (.cells (K.enc y).toArray te fz))
    (hlen : l.length + 1 ≤ maxLen) (hbytes : (l.length + 1) * bytes ≤ 140737488355328)
    (h : ∀ g cap w', RowSt K N W (.slice (some ⟨g, 0, none⟩) (l.length + 1) cap) (l ++ [y]) w' → w.grownBy w' v.ownBlock → (v.ownBlock = some g ∨ g = w.heap.size) → Kx (a.put o.dst (.slice (some ⟨g, 0, none⟩) (l.length + 1) cap)) w') :
    if Region.wanted o (yielded ops a.tmps) = true then Oper.wp P o a w Kx Q else E := by
  subst hm
  refine step_append_lies _ hgd s x t ho N K.T i z K.k bytes ht hi hz hsize hby hzs K.pos v l.length (K.cells l) hs hst.own ⟨B, 0, none⟩ 1 c (K.cells [y]) hx ?_ (news_box K hB) (K.cells_ones _) (by decide) hlen hbytes hst.base _ rfl ?_
  · rw [K.cells_len]; rfl
  · exact fun g cap w' h1 h2 h3 _ => h g cap w' (hst.push h1 h2) h2 h3
end

end Go.Proofs.YticfpkodoghnnaaGreat

/-
  'l = append(l, x)' inside a fence, up to what a machine holds, by Go's own rule of growing. No program.
-/
namespace Go.Proofs.YticfpkodoghnnaaGreat
open Go.RowKit

theorem wpListIn_append_own_wide {F : Fence} {n : Nat} {P : Program} (w : World) {ops : Array Oper} {rest : List Oper} {o : Oper} {a : Act} {Q : Exit → Act → World → Prop}
    (hg : o.guard = none) (s x : Operand) (t : TypeId) (hop : o.op = Op.call { callee := Callee.builtin Builtin.append, args := #[s, x], argTypes := #[t, t] })
    (base : Nat) (e : TypeId) (i : TypeInfo) (z : Value) (size bytes : Nat) (h1 : P.underlying t = some (.slice e)) (h2 : P.info? e = some i) (h3 : i.zero = some z) (h4 : i.size = size) (h5 : i.bytes = bytes) (h6 : z.cells.size = size) (h7 : 0 < size)
    (v : Value) (k : Nat) (xs : List Value) (hs : a.eval s = v) (hown : w.ownsRow base e size v k xs) (ad : Addr) (m c : Nat) (news : List Value) (hx : a.eval x = .slice (some ad) m c) (hn : news.length = m * size)
    (hc : ∀ j u, news[j]? = some u → w.cell? (ad.add j) = some u) (h1c : ∀ u ∈ news, u.oneCell' = true) (b1 : k + m ≤ maxLen) (b2 : ((k + m) + (k + m) / 4 + 192) * bytes ≤ 281474976710656) (b3 : base ≤ w.heap.size)
    (hK : ∀ v' w', w'.ownsRow base e size v' (k + m) (xs ++ news) → w.grownBy w' v.ownBlock → (v' = .slice none 0 0 ↔ v = .slice none 0 0 ∧ m = 0) → wpListIn F n P ops Q rest (a.put o.dst v') w') :
    wpListIn F n P ops Q (o :: rest) a w := by
  refine wpListIn_plain hg fun K hK' => ?_
  obtain ⟨v', w', hrun, r1, r2, r3⟩ := run_append_own_wide (P := P) w base t o.type e i z size bytes h1 h2 h3 h4 h5 h6 h7 v k xs hown ad m c news hn hc h1c b1 b2 b3
  unfold Oper.wpIn
  refine ⟨?_, ?_⟩
  · simp [Oper.about, hop, resolve, Target.leads, Sem.run_pure]
  · rw [Oper.semAt_plain F _ _ (by rw [hop]; intro c hc'; cases hc')]
    simp [execOp, hop, resolve, invoke, builtin, hs, hx, hrun, Result.andThen]
    exact hK' _ _ (hK v' w' r1 r2 r3)

end Go.Proofs.YticfpkodoghnnaaGreat
