/-
  Texts of this claim, one behind the other: Job Stbc Stc Std Ste Stf Joc Nor Par Uni Wri Pri Fix0 Fix Byt Rwr Sze0 Rpr Rp6 Grp Rnm Rnn Ncd Nms Rrd Txs Lin0 Rwd Rp7 Rp8.
-/
import Derived.Test.YtfcjnoojcajljaaGreatDoorPb
import Derived.Sort.WalkB2
import Derived.Sort.WalkB12
import Derived.Deep.LoopGhost
import Derived.Deep.CutRange
import Derived.Test.YtfcjnoojcajljaaGreatDoorPa
import Derived.Lib.Join
import Derived.Laws.Runes
/-
  The contracts of slices.Clone of fields, and of joined.
-/
namespace Go.Proofs.YtfcjnoojcajljaaGreatDoor
open Go.RowKit Go.Sort Go.Lib

theorem xs_cells {w : World} {b off : Nat} {d : List Fx} (h : XsAt w b off d) : ∀ j u, (cellsX d)[j]? = some u → w.cell? ⟨b, off + j, none⟩ = some u := by
  intro j u hj
  have hjl := (List.getElem?_eq_some_iff.1 hj).1
  rw [cellsX_len] at hjl
  obtain ⟨c0, c1⟩ := h (j / 2) (by omega)
  obtain ⟨g0, g1⟩ := cellsX_get d (j / 2) (by omega)
  rcases Nat.mod_two_eq_zero_or_one j with h2 | h2
  · have e : j / 2 * 2 = j := by omega
    rw [e] at c0 g0
    rw [g0] at hj
    rw [c0]; exact hj
  · have e : j / 2 * 2 + 1 = j := by omega
    rw [show off + j / 2 * 2 + 1 = off + j by omega] at c1
    rw [e] at g1
    rw [g1] at hj
    rw [c1]; exact hj

theorem flat_get (l : List Fx) (t : Nat) (h : t < l.length * 2) : (l.flatMap encX)[t]? = some (encX (l[t / 2]!))[t % 2]! := by
  induction l generalizing t with
  | nil => simp at h
  | cons x l ih =>
    rw [List.flatMap_cons]
    by_cases h2 : t < 2
    · rcases (show t = 0 ∨ t = 1 by omega) with rfl | rfl <;> simp [encX]
    · obtain ⟨u, rfl⟩ : ∃ u, t = u + 2 := ⟨t - 2, by omega⟩
      have hl : (encX x).length = 2 := rfl
      rw [List.getElem?_append_right (by omega), hl, show u + 2 - 2 = u by omega, ih u (by simp at h; omega), show (u + 2) / 2 = u / 2 + 1 by omega, show (u + 2) % 2 = u % 2 by omega]
      simp

theorem holds_of_heap {w : World} {g : Nat} {cur : Array Value} {e : TypeId} (d : Array Fx) (hheap : w.heap[g]? = some (.cells cur e (0, 0))) (htake : cur.toList.take (d.size * 2) = cellsX d.toList) : HoldsK encX 2 w g 0 d := by
  intro j hj
  rw [size_flatK] at hj
  have hg := flat_get d.toList j (by simpa using hj)
  have h1 : (cur.toList.take (d.size * 2))[j]? = some (encX (d.toList[j / 2]!))[j % 2]! := by rw [htake]; exact hg
  rw [List.getElem?_take_of_lt hj] at h1
  rw [get_flatK _ _ _ _ hj]
  constructor
  · simp only [World.cell?, hheap, Nat.zero_add]
    have he : d.toList[j / 2]! = d[j / 2]! := by
      rw [getElem!_pos d (j / 2) (by omega), getElem!_pos d.toList (j / 2) (by simp; omega)]; simp
    rw [← Array.getElem?_toList, h1, he]
    rfl
  · simp [World.frozen?, hheap]

theorem below_sortWorld {B : Nat} {w0 w : World} (h : Below B w0 w) (hB : B ≤ w.heap.size) (blk off n : Nat) (d : Array Fx) (os : Array Obj) (hb : B ≤ blk) : Below B w0 (sortWorldK encX 2 w blk off n d os) := by
  refine h.trans ⟨rfl, rfl, rfl, ?_, ?_⟩
  · simp [sortWorldK, putRowK]
  · intro k hk
    have hks : k < w.heap.size := by omega
    simp only [sortWorldK, Sort.grow, putRowK, putRow, mapBlock, Sort.ahead]
    rw [Array.getElem?_append_left (by simpa using hks), Array.getElem?_modify, if_neg (by omega)]

/-- What the sort of a row leaves, as fields. -/
theorem sorted_xs {w w' : World} {g : Nat} {d : Array Fx} (hH : HoldsK encX 2 w g 0 d) (hg : g < w.heap.size) (h : Sorts w g 0 d w') : ∃ d' : List Fx, d'.length = d.size ∧ XsAt w' g 0 d' ∧ d'.Perm d.toList ∧ (d'.Pairwise fun x y => ltOf cmpF y x = false) ∧ (∀ c, d'.filter (fun x => decide (x.name = c)) = d.toList.filter fun x => decide (x.name = c)) := by
  obtain ⟨e, n, os, hp, hs, hst, rfl⟩ := h
  have hsz : e.size = d.size := hp.1
  have hH2 : HoldsK encX 2 (sortWorldK encX 2 w g 0 n e os) g 0 e := by
    exact holdsK_grow encX 2 _ os g 0 _ (by simpa [putRowK] using hg) (holdsK_putRowK encX 2 (Sort.ahead w n) g 0 _ _ (holdsK_ahead encX 2 w n g 0 _ hH) hsz)
  refine ⟨e.toList, by simpa using hsz, fun i hi => ?_, ?_, ?_, hst⟩
  · have hi' : i < e.size := by simpa using hi
    have k0 := (hH2.cell (i := i) (c := 0) hi' (by simp)).1
    have k1 := (hH2.cell (i := i) (c := 1) hi' (by simp)).1
    have he : e[i]! = e.toList[i] := by rw [getElem!_pos e i hi']; simp
    rw [he] at k0 k1
    exact ⟨by simpa [encX] using k0, by simpa [encX, Nat.add_assoc] using k1⟩
  · have := hp.2.2
    have e1 : e.extract 0 d.size = e := by rw [← hsz]; simp
    have e2 : d.extract 0 d.size = d := by simp
    rw [e1, e2] at this
    exact this
  · rw [List.pairwise_iff_getElem]
    intro i j hi hj hij
    have hi' : i < e.size := by simpa using hi
    have hj' : j < e.size := by simpa using hj
    have := hs i j (Nat.zero_le _) hij (by omega)
    rw [getElem!_pos e i hi', getElem!_pos e j hj'] at this
    simpa using this

end Go.Proofs.YtfcjnoojcajljaaGreatDoor

/-
  The plain mathematics of a stable sort by blocks: sorted blocks, merged two by two.
-/
namespace Go.Proofs.YtfcjnoojcajljaaGreatDoor
open Go.Sort
set_option linter.unusedSectionVars false
variable {α : Type} [Inhabited α] {κ : Type} [DecidableEq κ]

/-- The same elements, equals in their order. -/
def Way (K : α → κ) (d dk : Array α) : Prop := PermIn 0 d.size d dk ∧ Stab K d dk

theorem Way.refl (K : α → κ) (d : Array α) : Way K d d := ⟨permIn_refl _ _ _, Stab.refl K d⟩
theorem Way.size {K : α → κ} {d dk : Array α} (h : Way K d dk) : dk.size = d.size := h.1.1

theorem Way.step {K : α → κ} {d dk dl : Array α} {a b : Nat} (h : Way K d dk) (p : PermIn a b dk dl) (hb : b ≤ d.size) (s : Stab K dk dl) : Way K d dl := by
  have e : dk.size = d.size := h.1.1
  exact ⟨permIn_trans _ _ _ _ _ h.1 (permIn_mono _ _ _ _ _ _ (Nat.zero_le _) hb (Nat.le_of_eq e.symm) p), h.2.trans s⟩

/-- The first q blocks of c are sorted. -/
def SegTo (lt : α → α → Bool) (c q : Nat) (d : Array α) : Prop := ∀ t, t < q → SortedIn lt (t * c) (t * c + c) d
/-- The blocks of c are sorted, from place a on up to n. -/
def SegFrom (lt : α → α → Bool) (c a n : Nat) (d : Array α) : Prop := ∀ t, SortedIn lt (a + t * c) (min (a + t * c + c) n) d

theorem sorted_out {lt : α → α → Bool} {a b x y : Nat} {d d' : Array α} (p : PermIn a b d d') (h : SortedIn lt x y d) (hd : y ≤ a ∨ b ≤ x) : SortedIn lt x y d' := fun i j h1 h2 h3 => by
  rw [p.2.1 i (by omega), p.2.1 j (by omega)]
  exact h i j h1 h2 h3

theorem sorted_mono {lt : α → α → Bool} {a b x y : Nat} {d : Array α} (h : SortedIn lt a b d) (h1 : a ≤ x) (h2 : y ≤ b) : SortedIn lt x y d := fun i j k1 k2 k3 => h i j (by omega) k2 (by omega)

theorem segTo_zero (lt : α → α → Bool) (c : Nat) (d : Array α) : SegTo lt c 0 d := fun _ ht => absurd ht (Nat.not_lt_zero _)

theorem blk_le {t q : Nat} (c : Nat) (h : t < q) : t * c + c ≤ q * c := by
  have := Nat.mul_le_mul_right c (show t + 1 ≤ q from h)
  rwa [Nat.add_mul, Nat.one_mul] at this

theorem SegTo.step {lt : α → α → Bool} {c q : Nat} {d d' : Array α} (h : SegTo lt c q d) (p : PermIn (q * c) (q * c + c) d d') (s : SortedIn lt (q * c) (q * c + c) d') : SegTo lt c (q + 1) d' := fun t ht => by
  by_cases e : t < q
  · exact sorted_out p (h t e) (Or.inl (blk_le c e))
  · obtain rfl : t = q := by omega
    exact s

theorem SegTo.last {lt : α → α → Bool} {c q n : Nat} {d d' : Array α} (h : SegTo lt c q d) (hn : n < q * c + c) (p : PermIn (q * c) n d d') (s : SortedIn lt (q * c) n d') : SegFrom lt c 0 n d' := fun t => by
  rw [Nat.zero_add]
  rcases Nat.lt_trichotomy t q with e | e | e
  · exact sorted_mono (sorted_out p (h t e) (Or.inl (blk_le c e))) (Nat.le_refl _) (by omega)
  · subst e
    exact sorted_mono s (Nat.le_refl _) (by omega)
  · have := blk_le c e
    intro i j h1 h2 h3
    omega

theorem SegFrom.first {lt : α → α → Bool} {c a n : Nat} {d : Array α} (h : SegFrom lt c a n d) (hn : a + c ≤ n) : SortedIn lt a (a + c) d := by
  have := h 0
  rw [Nat.zero_mul, Nat.add_zero, Nat.min_eq_left hn] at this
  exact this

theorem SegFrom.second {lt : α → α → Bool} {c a n e : Nat} {d : Array α} (h : SegFrom lt c a n d) (h1 : e ≤ a + c + c) (h2 : e ≤ n) : SortedIn lt (a + c) e d := by
  have := h 1
  rw [Nat.one_mul] at this
  exact sorted_mono this (Nat.le_refl _) (by omega)

theorem SegFrom.short {lt : α → α → Bool} {c a n : Nat} {d : Array α} (h : SegFrom lt c a n d) (hn : n ≤ a + c) : SortedIn lt a n d := by
  have := h 0
  rw [Nat.zero_mul, Nat.add_zero, Nat.min_eq_right hn] at this
  exact this

theorem SegFrom.step {lt : α → α → Bool} {c a n : Nat} {d d' : Array α} (h : SegFrom lt c a n d) (p : PermIn a (a + 2 * c) d d') : SegFrom lt c (a + 2 * c) n d' := fun t => by
  have := h (t + 2)
  have e : a + (t + 2) * c = a + 2 * c + t * c := by rw [Nat.add_mul]; omega
  rw [e] at this
  exact sorted_out p this (Or.inr (by omega))

/-- What the rotation of a merge leaves to do. -/
theorem merge_cut {lt : α → α → Bool} {K : α → κ} (hS : SWO lt) (hK : ∀ x y, lt x y = true → K x ≠ K y) {a s m e b mid : Nat} {d d1 : Array α} (h : Rot s m e d d1) (has : a ≤ s) (hsm : s ≤ m) (hme : m ≤ e) (heb : e ≤ b) (hb : b ≤ d.size) (hmid : s + (e - m) = mid)
    (hL : SortedIn lt a m d) (hR : SortedIn lt m b d) (hlow : a < s → e < b → lt d[e]! d[s - 1]! = false) (hhigh : s < m → m < e → lt d[e - 1]! d[s]! = true) :
    SortedIn lt a s d1 ∧ SortedIn lt s mid d1 ∧ (¬ (a < s ∧ s < mid) → Mrg lt K a mid d1 d1) ∧
      (∀ d2, Mrg lt K a mid d1 d2 → SortedIn lt mid e d2 ∧ SortedIn lt e b d2 ∧ (¬ (mid < e ∧ e < b) → Mrg lt K mid b d2 d2) ∧ ∀ d3, Mrg lt K mid b d2 d3 → Mrg lt K a b d d3) := by
  subst hmid
  obtain ⟨_, _, s1, s2, s3, s4, _⟩ := h.merge (K := K) hS hK has hsm hme heb hb hL hR hlow hhigh
  refine ⟨s1, s2, fun hn => Mrg.none ?_, fun d2 m2 => ?_⟩
  · by_cases e1 : a < s
    · rw [show s + (e - m) = s by omega]; exact s1
    · rw [show a = s by omega]; exact s2
  · have t3 := sorted_out m2.1 s3 (Or.inr (Nat.le_refl _))
    have t4 := sorted_out m2.1 s4 (Or.inr (by omega))
    refine ⟨t3, t4, fun hn => Mrg.none ?_, fun d3 m3 => Mrg.of_rot hS hK h has hsm hme heb hb hL hR hlow hhigh m2 m3⟩
    by_cases e1 : s + (e - m) < e
    · rw [show b = e by omega]; exact t3
    · rw [show s + (e - m) = e by omega]; exact t4

theorem Mrg.size {lt : α → α → Bool} {K : α → κ} {a b : Nat} {d d' : Array α} (h : Mrg lt K a b d d') : d'.size = d.size := h.1.1

end Go.Proofs.YtfcjnoojcajljaaGreatDoor

/-
  The contracts of swapRangeCmpFunc and rotateCmpFunc, of slices, over fields.
-/
namespace Go.Proofs.YtfcjnoojcajljaaGreatDoor
open Go.RowKit Go.Sort Go.Lib Go.Shelf

/-- The runs of n from a on and from b on have changed places. -/
def Swapd (a b n : Nat) (d dk : Array Fx) : Prop :=
  dk.size = d.size ∧ (∀ t, t < n → dk[a + t]! = d[b + t]!) ∧ (∀ t, t < n → dk[b + t]! = d[a + t]!) ∧ ∀ i, (i < a ∨ a + n ≤ i) → (i < b ∨ b + n ≤ i) → dk[i]! = d[i]!

theorem Swapd.zero (a b : Nat) (d : Array Fx) : Swapd a b 0 d d := ⟨rfl, fun t ht => by omega, fun t ht => by omega, fun _ _ _ => rfl⟩

theorem Swapd.step {a b n : Nat} {d dk : Array Fx} (h : Swapd a b n d dk) (hab : a + n < b) (hb : b + n < d.size) : Swapd a b (n + 1) d (swp dk (a + n) (b + n)) := by
  obtain ⟨h1, h2, h3, h4⟩ := h
  refine ⟨by rw [size_swp, h1], fun t ht => ?_, fun t ht => ?_, fun i hi hj => ?_⟩
  · by_cases e : t = n
    · subst e
      rw [swp_left _ _ _ (by omega) (by omega)]
      exact h4 _ (by omega) (by omega)
    · rw [swp_other _ _ _ _ (by omega) (by omega)]; exact h2 t (by omega)
  · by_cases e : t = n
    · subst e
      rw [swp_right _ _ _ (by omega)]
      exact h4 _ (by omega) (by omega)
    · rw [swp_other _ _ _ _ (by omega) (by omega)]; exact h3 t (by omega)
  · rw [swp_other _ _ _ _ (by omega) (by omega)]
    exact h4 _ (by omega) (by omega)

theorem swk_cells {w0 W : World} {blk off : Nat} {d0 dk : Array Fx} (h : SWK encX 2 w0 blk off dk W) (R : RowK encX 2 w0 blk off d0) (hs : dk.size = d0.size) (i : Nat) (hi : i < dk.size) :
    W.cell? ⟨blk, off + i * 2, none⟩ = some (.string dk[i]!.name) ∧ W.frozen? ⟨blk, off + i * 2, none⟩ = false ∧ W.cell? ⟨blk, off + i * 2 + 1, none⟩ = some dk[i]!.sl ∧ W.frozen? ⟨blk, off + i * 2 + 1, none⟩ = false := by
  have H := h.holds R.hblk R.hH hs
  have e0 := H (i * 2) (by rw [size_flatK]; omega)
  have e1 := H (i * 2 + 1) (by rw [size_flatK]; omega)
  rw [get_flatK _ _ _ _ (by omega)] at e0 e1
  rw [show i * 2 / 2 = i by omega, show i * 2 % 2 = 0 by omega] at e0
  rw [show (i * 2 + 1) / 2 = i by omega, show (i * 2 + 1) % 2 = 1 by omega] at e1
  exact ⟨e0.1, e0.2, e1.1, e1.2⟩

theorem swk_swapped {w0 W : World} {blk off : Nat} {d0 dk : Array Fx} (h : SWK encX 2 w0 blk off dk W) (R : RowK encX 2 w0 blk off d0) (i j : Nat) (hi : i < dk.size) (hj : j < dk.size) :
    SWK encX 2 w0 blk off (swp dk i j) ((((W.drew.setCell ⟨blk, off + i * 2, none⟩ (.string dk[j]!.name)).setCell ⟨blk, off + i * 2 + 1, none⟩ dk[j]!.sl).setCell ⟨blk, off + j * 2, none⟩ (.string dk[i]!.name)).setCell ⟨blk, off + j * 2 + 1, none⟩ dk[i]!.sl) :=
  h.swapped R i j hi hj

theorem cell_other {W : World} {b p q : Nat} {v u : Value} (h : W.cell? ⟨b, q, none⟩ = some u) (hne : p ≠ q) : (W.setCell ⟨b, p, none⟩ v).cell? ⟨b, q, none⟩ = some u := 
  (World.cell?_setCell_other (w := W) (a := ⟨b, p, none⟩) (b := ⟨b, q, none⟩) (v := v) (by intro e; cases e; exact hne rfl)).trans h

end Go.Proofs.YtfcjnoojcajljaaGreatDoor

/-
  The contract of symMergeCmpFunc of slices, over fields.
-/
namespace Go.Proofs.YtfcjnoojcajljaaGreatDoor
open Go.RowKit Go.Sort Go.Lib Go.Shelf

theorem swk_in {w0 W : World} {blk off : Nat} {d0 dk : Array Fx} (h : SWK encX 2 w0 blk off dk W) (R : RowK encX 2 w0 blk off d0) (hs : dk.size = d0.size) (i : Nat) (hi : i < dk.size) (n : Nat) (os : Array Obj) :
    (grow (W.drewN n) os).cell? ⟨blk, off + i * 2, none⟩ = some (.string dk[i]!.name) ∧ (grow (W.drewN n) os).cell? ⟨blk, off + i * 2 + 1, none⟩ = some (.slice dk[i]!.p dk[i]!.txt.length dk[i]!.cap) := by
  have := swk_cells (h.grown n os) R hs i hi
  exact ⟨this.1, this.2.2.1⟩

theorem ltF_true {x y : Fx} (h : ltOf cmpF x y = true) : cmpF x y < 0 := of_decide_eq_true h
theorem ltF_false {x y : Fx} (h : ltOf cmpF x y = false) : ¬ cmpF x y < 0 := of_decide_eq_false h

end Go.Proofs.YtfcjnoojcajljaaGreatDoor

/-
  The contract of symMergeCmpFunc of slices, over fields: the general case, and the whole.
-/
namespace Go.Proofs.YtfcjnoojcajljaaGreatDoor
open Go.RowKit Go.Sort Go.Lib Go.Shelf

end Go.Proofs.YtfcjnoojcajljaaGreatDoor

/-
  The contracts of stableCmpFunc and SortStableFunc of slices, over fields.
-/
namespace Go.Proofs.YtfcjnoojcajljaaGreatDoor
open Go.RowKit Go.Sort Go.Lib Go.Shelf

end Go.Proofs.YtfcjnoojcajljaaGreatDoor

/-
  The contract of joined.
-/
namespace Go.Proofs.YtfcjnoojcajljaaGreatDoor
open Go.RowKit Go.Sort Go.Lib

/-- An append of no text. -/
theorem step_txt0 {ops : Array Oper} {o : Oper} {a : Act} {K : Act → World → Prop} {Q : Exit → Act → World → Prop} {E : Prop} (w : World) (hgd : o.guard = none) (s x : Operand)
    (ho : o.op = .call { callee := .builtin .append, args := #[s, x], argTypes := #[41, 41] }) (q : Option Addr) (n cap : Nat) (p : Option Addr) (c : Nat)
    (hs : a.eval s = .slice q n cap) (hcap : n ≤ cap) (hx : a.eval x = .slice p 0 c) (hq : q = none → n = 0 ∧ cap = 0)
    (h : K (a.put o.dst (.slice q n cap)) w) :
    if Region.wanted o (yielded ops a.tmps) = true then Oper.wp Tryz.prog o a w K Q else E := by
  have hw : Region.wanted o (yielded ops a.tmps) = true := by simp [Region.wanted, hgd]
  rw [if_pos hw]
  obtain ⟨i0, hi0, _, _, _⟩ := info_parts Tryz.infoStr
  have hrun : (Builtin.append_ #[41, 41] o.type #[.slice q n cap, .slice p 0 c]).run Tryz.prog w = .ok (.slice q n cap) w := by
    cases q with
    | none =>
      obtain ⟨rfl, rfl⟩ := hq rfl
      cases p <;> simp [Builtin.append_, run_underlying Tryz.underlying41, Builtin.lenOf, Builtin.firstCells, sizeOf, typeInfo, hi0, loadCells, loadCellsFrom]
    | some q =>
      cases p <;> simp [Builtin.append_, run_underlying Tryz.underlying41, Builtin.lenOf, Builtin.firstCells, sizeOf, typeInfo, hi0, storeCells, loadCells, loadCellsFrom, hcap]
  unfold Oper.wp
  simp [execOp, ho, resolve, invoke, builtin, hs, hx, hrun, Result.andThen]
  exact h

/-- The last field's texts are stored as they were. -/
theorem joined_kept {N : Nat} {w : World} {o : List Fx} {x : Fx} {go cp : Nat} (h : OwnJ N w (.slice (some ⟨go, 0, none⟩) (o.length + 1) cp) (o ++ [x])) :
    OwnJ N (w.setCell ⟨go, o.length * 2 + 1, none⟩ x.sl) (.slice (some ⟨go, 0, none⟩) (o.length + 1) cp) (o ++ [x]) := by
  obtain ⟨⟨hrow, htx⟩, hap⟩ := h
  have hlen : (o ++ [x]).length = o.length + 1 := by simp
  rw [hlen] at hrow
  have hst := hrow.stored (o.length * 2 + 1) x.sl
  have hget := (cellsX_get (o ++ [x]) o.length (by simp)).2
  simp only [List.getElem_concat_length] at hget
  have e1 : (cellsX (o ++ [x])).set (o.length * 2 + 1) x.sl = cellsX (o ++ [x]) := by
    apply List.ext_getElem?
    intro j
    rw [List.getElem?_set]
    split
    · rename_i hj
      subst hj
      rw [if_pos (by rw [cellsX_len]; simp; omega)]
      exact hget.symm
    · rfl
  rw [e1] at hst
  refine ⟨⟨by rw [hlen]; exact hst.1, fun y hy => own_else (htx y hy) hrow (by decide) (grown_set w go _ _)⟩, hap⟩

/-- One field more, its texts in a new row. -/
theorem joined_put {N : Nat} {w w4 : World} {v v' : Value} {o : List Fx} {x : Fx} {M : Nat} (h : OwnJ N w v o) (hx : OwnT M w x.sl x.txt) (hM : ∀ y ∈ o, ∀ k, y.sl.ownBlock = some k → k < M) (hNM : N ≤ M)
    (hown : w4.ownsRow N 43 2 v' (o.length + 1) (cellsX o ++ cellsX [x])) (hg : w.grownBy w4 v.ownBlock) : OwnJ N w4 v' (o ++ [x]) := by
  refine ⟨h.1.put (own_weak hx hNM) hown hg, apart_snoc h.2 fun y hy => ?_⟩
  rcases hb : y.sl.ownBlock with _ | k
  · exact Or.inl rfl
  · right
    intro e
    have h1 := hM y hy k hb
    have h2 := (World.ownsRow.lt hx k e.symm).1
    omega

theorem two_one (n : ByteArray) (p : Option Addr) (k c : Nat) : ∀ u ∈ [Value.string n, Value.slice p k c], u.oneCell' = true := by
  intro u hu
  simp at hu
  rcases hu with rfl | rfl <;> rfl

/-- The field f lies in a block of its own. -/
def NewX (w : World) (B : Nat) (f : Fx) : Prop := w.heap[B]? = some (.cells #[.string f.name, .slice f.p f.txt.length f.cap] 43 (0, 0))

/-- An append of one field, at a step of a region that draws. -/
theorem step_putX {ops : Array Oper} {o : Oper} {a : Act} {K : Act → World → Prop} {Q : Exit → Act → World → Prop} {E : Prop} (w : World) (hgd : o.guard = none) (s x : Operand)
    (ho : o.op = .call { callee := .builtin .append, args := #[s, x], argTypes := #[31, 31] }) (N : Nat) (v : Value) (os : List Fx) (n : Nat) (hs : a.eval s = v) (hoj : OwnJ N w v os) (hn : os.length = n) (B : Nat) (f : Fx)
    (hx : a.eval x = .slice (some ⟨B, 0, none⟩) 1 1) (hB : NewX w B f) (hl : (n + 1) * 40 ≤ 140737488355328) (hN : N ≤ w.heap.size)
    (h : ∀ g cap w', w'.ownsRow N 43 2 (.slice (some ⟨g, 0, none⟩) (n + 1) cap) (n + 1) (cellsX os ++ cellsX [f]) → w.grownBy w' v.ownBlock → K (a.put o.dst (.slice (some ⟨g, 0, none⟩) (n + 1) cap)) w') :
    if Region.wanted o (yielded ops a.tmps) = true then Oper.wp Tryz.prog o a w K Q else E := by
  subst hn
  obtain ⟨j0, hj, hj0, hj1, hj2⟩ := info_parts Tryz.infoFld
  refine step_append_lies w hgd s x 31 ho N 43 j0 (.agg #[.string ⟨#[]⟩, .slice none 0 0]) 2 40 Tryz.underlying31 hj hj0 hj1 hj2 rfl (by decide) v os.length (cellsX os) hs hoj.1.1 ⟨B, 0, none⟩ 1 1 (cellsX [f]) hx rfl (fun j u hju => ?_) (cellsX_one _) (by decide) (by unfold maxLen; omega) hl hN _ rfl (fun g cap w' h1 h2 _ _ => h g cap w' h1 h2)
  exact World.news_of_block hB j u hju

/-- The state of joined's loop. -/
def JoinSt (w2 : World) (ds : List Fx) (i : Nat) (v : Value) (wr : World) : Prop :=
  ∃ o : List Fx, OwnJ w2.heap.size wr v o ∧ o.map Fx.fld = joinS ((ds.map Fx.fld).take i) ∧ Below w2.heap.size w2 wr

theorem sl_shape {n0 : Nat} {w : World} {x : Fx} (h : OwnT n0 w x.sl x.txt) : x.txt.length ≤ x.cap ∧ (x.p = none → x.txt.length = 0 ∧ x.cap = 0) := by
  rcases h.2 with ⟨hv, h0⟩ | ⟨g, cap, cur, hv, _, _, h1, _⟩
  · unfold Fx.sl at hv
    injection hv with h1 h2 h3
    rw [h0, h3]
    exact ⟨Nat.le_refl _, fun _ => ⟨rfl, rfl⟩⟩
  · unfold Fx.sl at hv
    injection hv with h3 h4 h5
    rw [h5]
    exact ⟨h1, fun h => by rw [h3] at h; cases h⟩

/-- ds is d, sorted by name, equals in their order. -/
def SortOf (d ds : List Fx) : Prop := ds.Perm d ∧ (ds.Pairwise fun x y => ltOf cmpF y x = false) ∧ ∀ c, ds.filter (fun x => decide (x.name = c)) = d.filter fun x => decide (x.name = c)

def JoinPost (w : World) (d : List Fx) (e : Ending) (w' : World) : Prop :=
  ∃ (u : Value) (ds o : List Fx), e = .returned u ∧ SortOf d ds ∧ OwnJ w.heap.size w' u o ∧ o.map Fx.fld = joinS (ds.map Fx.fld) ∧ Below w.heap.size w w'

end Go.Proofs.YtfcjnoojcajljaaGreatDoor

/-
  The contract of Norm.
-/
namespace Go.Proofs.YtfcjnoojcajljaaGreatDoor
open Go.RowKit Go.Sort Go.Lib

theorem joinS_all {P : ByteArray → Prop} {Q : ByteArray → Prop} (fs : List Fld) (h : ∀ f ∈ fs, P f.1 ∧ ∀ t ∈ f.2, Q t) : ∀ f ∈ joinS fs, P f.1 ∧ ∀ t ∈ f.2, Q t := by
  have : ∀ (l o : List Fld), (∀ f ∈ l, P f.1 ∧ ∀ t ∈ f.2, Q t) → (∀ f ∈ o, P f.1 ∧ ∀ t ∈ f.2, Q t) → ∀ f ∈ l.foldl joinStep o, P f.1 ∧ ∀ t ∈ f.2, Q t := by
    intro l
    induction l with
    | nil => intro o _ ho; exact ho
    | cons g l ih =>
      intro o hl ho
      rw [List.foldl_cons]
      refine ih _ (fun f hf => hl f (by simp [hf])) ?_
      have hg := hl g (by simp)
      rcases List.eq_nil_or_concat o with rfl | ⟨o', x, rfl⟩
      · intro f hf; rw [joinStep_nil, List.mem_singleton] at hf; subst hf; exact hg
      · rw [List.concat_eq_append] at ho ⊢
        have hx := ho x (by simp)
        by_cases e : x.1 = g.1
        · rw [joinStep_same _ _ _ e]
          intro f hf
          rw [List.mem_append, List.mem_singleton] at hf
          rcases hf with hf | rfl
          · exact ho f (by simp [hf])
          · refine ⟨hx.1, fun t ht => ?_⟩
            rw [List.mem_append] at ht
            exact ht.elim (hx.2 t) (hg.2 t)
        · rw [joinStep_other _ _ _ e]
          intro f hf
          rw [List.mem_append, List.mem_singleton] at hf
          rcases hf with hf | rfl
          · exact ho f hf
          · exact hg
  exact this fs [] h (fun f hf => by simp at hf)

/-- A field whose name a machine can hold. -/
def Fy : Type := { x : Fx // x.name.size ≤ maxLen }
def fyNone : Fy := ⟨⟨⟨#[]⟩, none, 0, []⟩, Nat.zero_le _⟩

def misB (f : Fld) : Bool := !fieldB f.1.data.toList
def bareB (f : Fld) : Bool := f.2.isEmpty

theorem xs_enc {w : World} {b off : Nat} {d : List Fx} (h : XsAt w b off d) (j : Nat) (hj : j < d.length) (i : Nat) (v : Value) (hv : (encX d[j])[i]? = some v) : w.cell? ⟨b, off + j * 2 + i, none⟩ = some v := by
  obtain ⟨c0, c1⟩ := h j hj
  match i, hv with
  | 0, hv => simp [encX] at hv; subst hv; exact c0
  | 1, hv => simp [encX] at hv; subst hv; exact c1

/-- What Norm answers. -/
def NormPost (w : World) (d : List Fx) (e : Ending) (w' : World) : Prop :=
  (((d.map Fx.fld).any misB = true ∧ e = .returned (.tuple #[.slice none 0 0, .int .i64 2])) ∨
   ((d.map Fx.fld).any misB = false ∧ ∃ ds, SortOf d ds ∧
     (((joinS (ds.map Fx.fld)).any bareB = true ∧ e = .returned (.tuple #[.slice none 0 0, .int .i64 3])) ∨
      ((joinS (ds.map Fx.fld)).any bareB = false ∧ mayB (joinS (ds.map Fx.fld)) = false ∧ e = .returned (.tuple #[.slice none 0 0, .int .i64 5])) ∨
      ((joinS (ds.map Fx.fld)).any bareB = false ∧ mayB (joinS (ds.map Fx.fld)) = true ∧ ∃ u o, e = .returned (.tuple #[u, .int .i64 0]) ∧ OwnJ w.heap.size w' u o ∧ o.map Fx.fld = joinS (ds.map Fx.fld))))) ∧ Below w.heap.size w w'

theorem joined_fit {d ds o : List Fx} (hf : FitX d) (hso : SortOf d ds) (ho : o.map Fx.fld = joinS (ds.map Fx.fld)) (htot : totF (d.map Fx.fld) * 16 ≤ 140737488355328) : FitX o := by
  have hall : ∀ f ∈ ds.map Fx.fld, f.1.size ≤ maxLen ∧ ∀ t ∈ f.2, t.size ≤ maxLen := fun f hf' => by
    obtain ⟨x, hx, rfl⟩ := List.mem_map.1 hf'
    have := hf.2 x (hso.1.mem_iff.1 hx)
    exact ⟨this.1, this.2.2⟩
  have hj := joinS_all (P := fun n => n.size ≤ maxLen) (Q := fun t => t.size ≤ maxLen) _ hall
  have htt : totF (joinS (ds.map Fx.fld)) = totF (d.map Fx.fld) := by
    rw [totF_joinS]; exact ((hso.1.map Fx.fld).map _).sum_nat
  refine ⟨?_, fun x hx => ?_⟩
  · have h1 := joinS_len (ds.map Fx.fld)
    rw [← ho, List.length_map, List.length_map] at h1
    have := hso.1.length_eq
    have := hf.1
    omega
  · have hm : x.fld ∈ joinS (ds.map Fx.fld) := by rw [← ho]; exact List.mem_map.2 ⟨x, hx, rfl⟩
    obtain ⟨h1, h2⟩ := hj _ hm
    refine ⟨h1, ?_, h2⟩
    have := totF_mem hm
    rw [htt] at this
    unfold maxLen
    omega

end Go.Proofs.YtfcjnoojcajljaaGreatDoor

/-
  The contract of Parse where a line has fewer than 20 words.
-/
namespace Go.Proofs.YtfcjnoojcajljaaGreatDoor
open Go.RowKit
attribute [local go_sem] Oper.semAt_some

/-- The fields that words say. -/
def fieldsW : List (List UInt8) → Option (List Fld)
  | [] => some []
  | l :: r => match wordO l with
    | none => none
    | some (n, t) => (fieldsW r).map ((⟨n.toArray⟩, [⟨t.toArray⟩]) :: ·)

theorem fieldsW_append (a b : List (List UInt8)) : fieldsW (a ++ b) = (fieldsW a).bind fun x => (fieldsW b).map (x ++ ·) := by
  induction a with
  | nil => simp [fieldsW]
  | cons l a ih =>
    simp only [List.cons_append, fieldsW]
    cases wordO l with
    | none => rfl
    | some o =>
      obtain ⟨n, t⟩ := o
      simp only [ih]
      cases fieldsW a with
      | none => rfl
      | some x => cases fieldsW b <;> simp

/-- What Parse holds between two rounds. -/
def ParseSt {M : Nat} (w : World) (N : Nat) (pre : List (Wd M)) (W : World) : Prop :=
  ∃ v d fs, W.heap[w.heap.size + 2]? = some (.cells #[v] 31 (0, 0)) ∧ OwnXs (N + 2) W v d ∧ fieldsW (plainW pre) = some fs ∧ d.map Fx.fld = fs ∧ d.length = pre.length ∧
    W.heap[w.heap.size]? = some (.cells #[.slice none 0 0] 31 (0, 0)) ∧ W.heap[w.heap.size + 1]? = some (.cells #[.int .i64 0] 24 (0, 0)) ∧ Below w.heap.size w W ∧ N + 2 ≤ W.heap.size ∧ w.heap.size + 6 ≤ N

def ParseStop {M : Nat} (w : World) (N : Nat) (c : Code) (pre : List (Wd M)) (W : World) : Prop :=
  c = .ret ∧ fieldsW (plainW pre) = none ∧ W.heap[w.heap.size]? = some (.cells #[.slice none 0 0] 31 (0, 0)) ∧ W.heap[w.heap.size + 1]? = some (.cells #[.int .i64 4] 24 (0, 0)) ∧ Below w.heap.size w W ∧ w.heap.size + 6 ≤ N

/-- What Norm answers, its rows at or behind N. -/
def NormAns (N : Nat) (d : List Fx) (e : Ending) (w' : World) : Prop :=
  ((d.map Fx.fld).any misB = true ∧ e = .returned (.tuple #[.slice none 0 0, .int .i64 2])) ∨
   ((d.map Fx.fld).any misB = false ∧ ∃ ds, SortOf d ds ∧
     (((joinS (ds.map Fx.fld)).any bareB = true ∧ e = .returned (.tuple #[.slice none 0 0, .int .i64 3])) ∨
      ((joinS (ds.map Fx.fld)).any bareB = false ∧ mayB (joinS (ds.map Fx.fld)) = false ∧ e = .returned (.tuple #[.slice none 0 0, .int .i64 5])) ∨
      ((joinS (ds.map Fx.fld)).any bareB = false ∧ mayB (joinS (ds.map Fx.fld)) = true ∧ ∃ u o, e = .returned (.tuple #[u, .int .i64 0]) ∧ OwnJ N w' u o ∧ o.map Fx.fld = joinS (ds.map Fx.fld))))

theorem NormPost.ans {w w' : World} {d : List Fx} {e : Ending} (h : NormPost w d e w') : NormAns w.heap.size d e w' := h.1

theorem OwnJ.far {N R : Nat} {w w' : World} {v : Value} {o : List Fx} (h : OwnJ N w v o) (hg : w.grownBy w' (some R)) (hR : R < N) : OwnJ N w' v o := ⟨h.1.far hg hR, h.2⟩
theorem OwnJ.weak {N N' : Nat} {w : World} {v : Value} {o : List Fx} (h : OwnJ N w v o) (hN : N' ≤ N) : OwnJ N' w v o := ⟨⟨own_weak h.1.1 hN, fun x hx => own_weak (h.1.2 x hx) hN⟩, h.2⟩

theorem NormAns.map {N N' : Nat} {d : List Fx} {e : Ending} {w w' : World} (h : NormAns N d e w) (f : ∀ u o, OwnJ N w u o → OwnJ N' w' u o) : NormAns N' d e w' := by
  rcases h with h | ⟨h1, ds, h2, h3⟩
  · exact Or.inl h
  · refine Or.inr ⟨h1, ds, h2, ?_⟩
    rcases h3 with h3 | h3 | ⟨h3, h4, u, o, h5, h6, h7⟩
    · exact Or.inl h3
    · exact Or.inr (Or.inl h3)
    · exact Or.inr (Or.inr ⟨h3, h4, u, o, h5, f _ _ h6, h7⟩)

theorem NormAns.shape {N : Nat} {d : List Fx} {e : Ending} {w : World} (h : NormAns N d e w) : ∃ p n c k, e = .returned (.tuple #[.slice p n c, .int .i64 k]) := by
  rcases h with ⟨_, h⟩ | ⟨_, ds, _, ⟨_, h⟩ | ⟨_, _, h⟩ | ⟨_, _, u, o, h, ho, _⟩⟩
  · exact ⟨_, _, _, _, h⟩
  · exact ⟨_, _, _, _, h⟩
  · exact ⟨_, _, _, _, h⟩
  · rcases ho.1.1.2 with ⟨rfl, _⟩ | ⟨g, cap, cur, rfl, _⟩
    · exact ⟨_, _, _, _, h⟩
    · exact ⟨_, _, _, _, h⟩

def ParsePost (w : World) (l : List UInt8) (e : Ending) (w' : World) : Prop :=
  ((l = [] ∧ e = .returned (.tuple #[.slice none 0 0, .int .i64 0])) ∨
   (l ≠ [] ∧ fieldsW (splitL l) = none ∧ e = .returned (.tuple #[.slice none 0 0, .int .i64 4])) ∨
   (l ≠ [] ∧ ∃ fs d, fieldsW (splitL l) = some fs ∧ d.map Fx.fld = fs ∧ NormAns w.heap.size d e w')) ∧ Below w.heap.size w w'

theorem splitL_len (l : List UInt8) : (splitL l).length ≤ l.length + 1 := by
  induction h : l.length using Nat.strongRecOn generalizing l with
  | _ k ih =>
    subst h
    rcases ix_cases l 32 with ⟨h, _⟩ | ⟨i, h, hi, _⟩
    · rw [splitL_no h]; simp
    · rw [splitL_yes h, List.length_cons]
      have := ih (l.drop (i + 1)).length (by simp; omega) _ rfl
      simp at this ⊢
      omega

theorem wordO_len {l n t : List UInt8} (h : wordO l = some (n, t)) : n.length ≤ l.length ∧ t.length ≤ l.length := by
  unfold wordO at h
  split at h
  · cases h
  · cases hr : readL (l.drop ((Lib.indexByte l 61).toNat + 1)) with
    | none => rw [hr] at h; cases h
    | some m =>
      rw [hr] at h
      simp only [Option.map_some, Option.some.injEq, Prod.mk.injEq] at h
      obtain ⟨rfl, rfl⟩ := h
      have := readL_len _ _ _ (Nat.le_refl _) hr
      simp at this ⊢
      omega

theorem fieldsW_len {B : Nat} (ls : List (List UInt8)) (hB : ∀ l ∈ ls, l.length ≤ B) : ∀ fs, fieldsW ls = some fs → fs.length = ls.length ∧ totF fs = ls.length ∧ ∀ f ∈ fs, f.1.size ≤ B ∧ f.2.length = 1 ∧ ∀ t ∈ f.2, t.size ≤ B := by
  induction ls with
  | nil => intro fs h; cases h; exact ⟨rfl, rfl, fun f hf => by simp at hf⟩
  | cons l ls ih =>
    intro fs h
    simp only [fieldsW] at h
    cases ho : wordO l with
    | none => rw [ho] at h; cases h
    | some o =>
      obtain ⟨n, t⟩ := o
      rw [ho] at h
      cases hr : fieldsW ls with
      | none => rw [hr] at h; cases h
      | some gs =>
        rw [hr] at h
        cases h
        obtain ⟨h1, h2, h3⟩ := ih (fun l' hl' => hB l' (by simp [hl'])) gs hr
        obtain ⟨hn, ht⟩ := wordO_len ho
        have hl := hB l (by simp)
        refine ⟨by simp [h1], ?_, fun f hf => ?_⟩
        · simp only [totF, List.map_cons, List.sum_cons, List.length_cons, List.length_nil] at h2 ⊢
          omega
        · rw [List.mem_cons] at hf
          rcases hf with rfl | hf
          · refine ⟨?_, rfl, fun u hu => ?_⟩
            · show (ByteArray.mk _).size ≤ B
              simp [ByteArray.size]; omega
            · simp at hu; subst hu; simp [ByteArray.size]; omega
          · exact h3 f hf

theorem one_facts {w : World} {B : Nat} {u : Value} {T : TypeId} (h : w.heap[B]? = some (.cells #[u] T (0, 0))) : w.cell? ⟨B, 0, none⟩ = some u ∧ w.frozen? ⟨B, 0, none⟩ = false :=
  ⟨by rw [Lib.cell_of_heap h]; rfl, Lib.frozen_of_heap h 0⟩

theorem keeps_below {B : Nat} {W W' : World} (h : Below W.heap.size W W') : KeepsFrom B W W' :=
  ⟨h.size, fun k _ _ hk _ => (h.block k (Array.getElem?_eq_some_iff.1 hk).1).trans hk⟩

theorem row_cells {w : World} {base n k : Nat} {e : TypeId} {v : Value} {xs : List Value} {j : Nat} {o : Obj} (h : w.ownsRow base e n v k xs) (ej : v.ownBlock = some j) (hj : w.heap[j]? = some o) : o.isCells = true := by
  rcases h.2 with ⟨rfl, _⟩ | ⟨g, cap, cur, rfl, _, hgb, _⟩
  · simp [Value.ownBlock] at ej
  · obtain rfl : g = j := by simpa [Value.ownBlock] using ej
    rw [hgb] at hj; cases hj; rfl

end Go.Proofs.YtfcjnoojcajljaaGreatDoor

/-
  A list that is in order, and stable, is one: the fields as a stable sort leaves them.
-/
namespace Go.Proofs.YtfcjnoojcajljaaGreatDoor
open Go.RowKit Go.Sort Go.Lib

def InOrder (l : List Fld) : Prop := l.Pairwise fun x y => ltB y.1 x.1 = false

theorem order_unique : ∀ (a b : List Fld), InOrder a → InOrder b → (∀ c, a.filter (fun x => decide (x.1 = c)) = b.filter fun x => decide (x.1 = c)) → a = b
  | [], [], _, _, _ => rfl
  | [], y :: b, _, _, h => by have := h y.1; simp at this
  | x :: a, [], _, _, h => by have := h x.1; simp at this
  | x :: a, y :: b, ha, hb, h => by
    have ha' := List.pairwise_cons.1 ha
    have hb' := List.pairwise_cons.1 hb
    have hn : x.1 = y.1 := by
      have hx : x ∈ (y :: b).filter (fun z => decide (z.1 = x.1)) := by rw [← h]; simp
      have hy : y ∈ (x :: a).filter (fun z => decide (z.1 = y.1)) := by rw [h]; simp
      rw [List.mem_filter] at hx hy
      have h1 : ltB x.1 y.1 = false := by
        rcases List.mem_cons.1 hx.1 with e | e
        · rw [e]; exact ltB_irrefl _
        · exact hb'.1 x e
      have h2 : ltB y.1 x.1 = false := by
        rcases List.mem_cons.1 hy.1 with e | e
        · rw [e]; exact ltB_irrefl _
        · exact ha'.1 y e
      exact ltB_anti h1 h2
    have hxy : x = y := by
      have := h x.1
      rw [List.filter_cons_of_pos (by simp), List.filter_cons_of_pos (by simp [hn])] at this
      exact (List.cons.inj this).1
    subst hxy
    congr 1
    refine order_unique a b ha'.2 hb'.2 fun c => ?_
    have := h c
    by_cases e : x.1 = c
    · rw [List.filter_cons_of_pos (by simp [e]), List.filter_cons_of_pos (by simp [e])] at this
      exact (List.cons.inj this).2
    · rwa [List.filter_cons_of_neg (by simp [e]), List.filter_cons_of_neg (by simp [e])] at this

/-- f behind all that are not above it. -/
def insF (f : Fld) : List Fld → List Fld
  | [] => [f]
  | g :: l => if ltB f.1 g.1 then f :: g :: l else g :: insF f l

def sortS (l : List Fld) : List Fld := l.foldl (fun acc f => insF f acc) []

theorem mem_insF (f x : Fld) (l : List Fld) : x ∈ insF f l ↔ x = f ∨ x ∈ l := by
  induction l with
  | nil => simp [insF]
  | cons g l ih =>
    unfold insF
    split
    · simp
    · simp [ih, or_left_comm]

theorem insF_order (f : Fld) (l : List Fld) (h : InOrder l) : InOrder (insF f l) := by
  induction l with
  | nil => simp [insF, InOrder]
  | cons g l ih =>
    have h' := List.pairwise_cons.1 h
    unfold insF
    split
    · rename_i hlt
      refine List.pairwise_cons.2 ⟨fun x hx => ?_, h⟩
      rcases List.mem_cons.1 hx with rfl | hx
      · exact ltB_asymm hlt
      · have h1 := h'.1 x hx
        refine ltB_asymm ?_
        rcases ltB_cases g.1 x.1 with h2 | h2 | h2
        · exact ltB_trans hlt h2
        · rw [← h2]; exact hlt
        · rw [h1] at h2; cases h2
    · rename_i hlt
      refine List.pairwise_cons.2 ⟨fun x hx => ?_, ih h'.2⟩
      rcases (mem_insF f x l).1 hx with rfl | hx
      · simpa using hlt
      · exact h'.1 x hx

theorem insF_filter (f : Fld) (l : List Fld) (h : InOrder l) (c : ByteArray) : (insF f l).filter (fun x => decide (x.1 = c)) = (l ++ [f]).filter fun x => decide (x.1 = c) := by
  induction l with
  | nil => rfl
  | cons g l ih =>
    have h' := List.pairwise_cons.1 h
    unfold insF
    split
    · rename_i hlt
      by_cases e : f.1 = c
      · have hno : (g :: l).filter (fun x => decide (x.1 = c)) = [] := by
          rw [List.filter_eq_nil_iff]
          intro x hx hxc
          have hxc : x.1 = c := by simpa using hxc
          have hlx : ltB f.1 x.1 = true := by
            rcases List.mem_cons.1 hx with rfl | hx
            · exact hlt
            · have h1 := h'.1 x hx
              rcases ltB_cases g.1 x.1 with h2 | h2 | h2
              · exact ltB_trans hlt h2
              · rw [← h2]; exact hlt
              · rw [h1] at h2; cases h2
          rw [hxc, ← e, ltB_irrefl] at hlx
          cases hlx
        rw [List.filter_append, hno, List.filter_cons_of_pos (by simp [e]), hno, List.filter_cons_of_pos (by simp [e])]
        rfl
      · rw [List.filter_cons_of_neg (by simp [e]), List.filter_append, List.filter_cons_of_neg (p := fun x => decide (x.1 = c)) (a := f) (by simp [e])]
        simp
    · rw [List.cons_append, List.filter_cons, List.filter_cons, ih h'.2]

theorem sortS_spec (l : List Fld) : InOrder (sortS l) ∧ ∀ c, (sortS l).filter (fun x => decide (x.1 = c)) = l.filter fun x => decide (x.1 = c) := by
  have : ∀ (l acc : List Fld), InOrder acc → InOrder (l.foldl (fun acc f => insF f acc) acc) ∧ ∀ c, (l.foldl (fun acc f => insF f acc) acc).filter (fun x => decide (x.1 = c)) = (acc ++ l).filter fun x => decide (x.1 = c) := by
    intro l
    induction l with
    | nil => intro acc h; exact ⟨h, fun c => by simp⟩
    | cons f l ih =>
      intro acc h
      obtain ⟨h1, h2⟩ := ih (insF f acc) (insF_order f acc h)
      refine ⟨h1, fun c => ?_⟩
      rw [List.foldl_cons, h2 c, List.filter_append, insF_filter f acc h c, ← List.filter_append]
      simp
  have h := this l [] List.Pairwise.nil
  exact ⟨h.1, fun c => by simpa [sortS] using h.2 c⟩

theorem sortOf_flds {d ds : List Fx} (h : SortOf d ds) : ds.map Fx.fld = sortS (d.map Fx.fld) := by
  obtain ⟨h1, h2⟩ := sortS_spec (d.map Fx.fld)
  refine order_unique _ _ ?_ h1 fun c => ?_
  · refine List.Pairwise.map _ (fun x y hxy => ?_) h.2.1
    exact hxy
  · rw [h2 c, List.filter_map, List.filter_map]
    exact congrArg (List.map Fx.fld) (h.2.2 c)

/-- What Norm answers, by the fields alone. -/
def normF (fs : List Fld) : List Fld := joinS (sortS fs)

theorem NormAns.plain {N : Nat} {d : List Fx} {e : Ending} {w' : World} (h : NormAns N d e w') :
    ((d.map Fx.fld).any misB = true ∧ e = .returned (.tuple #[.slice none 0 0, .int .i64 2])) ∨
    ((d.map Fx.fld).any misB = false ∧
     (((normF (d.map Fx.fld)).any bareB = true ∧ e = .returned (.tuple #[.slice none 0 0, .int .i64 3])) ∨
      ((normF (d.map Fx.fld)).any bareB = false ∧ mayB (normF (d.map Fx.fld)) = false ∧ e = .returned (.tuple #[.slice none 0 0, .int .i64 5])) ∨
      ((normF (d.map Fx.fld)).any bareB = false ∧ mayB (normF (d.map Fx.fld)) = true ∧ ∃ u o, e = .returned (.tuple #[u, .int .i64 0]) ∧ OwnJ N w' u o ∧ o.map Fx.fld = normF (d.map Fx.fld)))) := by
  rcases h with h | ⟨h1, ds, h2, h3⟩
  · exact Or.inl h
  · have e := sortOf_flds h2
    rw [e] at h3
    exact Or.inr ⟨h1, h3⟩

end Go.Proofs.YtfcjnoojcajljaaGreatDoor

/-
  The contract of Write.
-/
namespace Go.Proofs.YtfcjnoojcajljaaGreatDoor
open Go.RowKit

theorem room1 {l : List Value} {a : Value} {n : Nat} (h : l.length + 3 ≤ n) : (l ++ [a]).length + 1 ≤ n := by rw [List.length_append]; simp; omega
theorem room2 {l : List Value} {a b : Value} {n : Nat} (h : l.length + 3 ≤ n) : (l ++ [a] ++ [b]).length + 1 ≤ n := by rw [List.length_append, List.length_append]; simp; omega

set_option maxHeartbeats 4000000 in
set_option maxRecDepth 100000 in
theorem write_any (s : ByteArray) (w : World) (hp : PlainAt w) (hs : s.size ≤ 46912496118442) :
    Calls Tryz.prog 68 #[.string s] w fun e w' => e = .returned (.string ⟨(writeL s.data.toList).toArray⟩) ∧ Below w.heap.size w w' := by
  have HP := hid hp
  clear hp
  go_enter Tryz.func68, Tryz.ntmps68
  go_wp2_with fail
  go_loopg [4] s.size (fun g vi wr => ∃ i : Nat, vi = .int .i64 i ∧ i ≤ s.size ∧ s.size - i ≤ g ∧ Below w.heap.size w wr ∧ Lib.IsBuilder 80 5 w.heap.size w.heap.size (Lib.byteCells (writeL (s.data.toList.take i))) wr)
  case atStart => exact ⟨0, rfl, by omega, by omega, (Below.refl _ _).alloc (Nat.le_refl _) _, Lib.fresh_isBuilder _ _ _⟩
  case round =>
    obtain ⟨i, rfl, hi, hg, hb, hbu⟩ := hrel
    have HB := hid hbu
    clear hbu
    by_cases hlt : i < s.size
    · have hltz : (i : Int) < (s.size : Int) := by omega
      obtain ⟨c, hc⟩ : ∃ c, s[i] = c := ⟨_, rfl⟩
      have HPr : PlainAt wr := HP.out.on hb
      have hsz : (Lib.byteCells (writeL (s.data.toList.take i))).length + 3 ≤ 140737488355328 := by
        rw [Lib.byteCells_length]
        have := writeL_len (s.data.toList.take i)
        rw [List.length_take] at this
        omega
      have HS := hid hsz
      clear hsz
      have HW := hid (write_step s i hlt)
      rw [hc] at HW
      have HC := hid hc
      clear hc
      cases hpl : plainB (c.toNat : Int) with
      | true =>
        have HE : Hid (writeC c = [c]) := by show writeC c = [c]; unfold writeC; rw [if_pos hpl]
        go_wp2_with (first | (go_at_call 100; rw [HC.out]; refine (isPlain_any _ _ HPr).mono ?_; rintro e w1 ⟨rfl, hb1⟩) | (go_at_call 101; refine (wbyte_any w.heap.size w.heap.size _ _ _ (bld_on HB.out hb1) (Nat.le_trans (Nat.add_le_add_left (by decide) _) HS.out) (Nat.le_trans hb.size hb1.size)).mono ?_; rintro e w2 ⟨rfl, hbu2, hb2⟩))
        go_roundg (s.size - (i + 1))
        case measure => omega
        refine ⟨i + 1, by go_num, by omega, by omega, (hb.trans (hb1.mono hb.size)).trans hb2, ?_⟩
        rw [HW.out, HE.out]
        simpa [Lib.byteCells, HC.out] using hbu2
      | false =>
        have HE : Hid (writeC c = [37, hexd (c.toNat / 16), hexd (c.toNat % 16)]) := by show writeC c = _; unfold writeC; rw [if_neg (by rw [hpl]; simp)]
        have hc1 : (0 : Int) ≤ ↑c.toNat / 16 ∧ (↑c.toNat : Int) / 16 < 16 := by have := c.toNat_lt; omega
        have hc2 : (0 : Int) ≤ ↑c.toNat % 16 ∧ (↑c.toNat : Int) % 16 < 16 := by omega
        go_wp2_with (first | (go_at_call 100; rw [HC.out]; refine (isPlain_any _ _ HPr).mono ?_; rintro e w1 ⟨rfl, hb1⟩) | (go_at_call 101; refine (wbyte_any w.heap.size w.heap.size _ _ _ (bld_on HB.out hb1) (Nat.le_trans (Nat.add_le_add_left (by decide) _) HS.out) (Nat.le_trans hb.size hb1.size)).mono ?_; rintro e w2 ⟨rfl, hbu2, hb2⟩))
        go_wp2_with (go_at_call 101; refine (wbyte_any w.heap.size w.heap.size _ _ _ hbu2 (room1 HS.out) (Nat.le_trans hb.size (Nat.le_trans hb1.size hb2.size))).mono ?_; rintro e w3 ⟨rfl, hbu3, hb3⟩)
        go_wp2_with (go_at_call 101; refine (wbyte_any w.heap.size w.heap.size _ _ _ hbu3 (room2 HS.out) (Nat.le_trans hb.size (Nat.le_trans hb1.size (Nat.le_trans hb2.size hb3.size)))).mono ?_; rintro e w4 ⟨rfl, hbu4, hb4⟩)
        go_roundg (s.size - (i + 1))
        case measure => omega
        refine ⟨i + 1, by go_num, by omega, by omega, (((hb.trans (hb1.mono hb.size)).trans hb2).trans hb3).trans hb4, ?_⟩
        rw [HW.out, HE.out]
        rw [digit_at, digit_at] at hbu4
        simpa [Lib.byteCells] using hbu4
    · have hltz : ¬ (i : Int) < (s.size : Int) := by omega
      have he : s.data.toList.take i = s.data.toList := List.take_of_length_le (by simp; omega)
      have HB2 := HB.out
      rw [he] at HB2
      have HB3 := hid HB2
      clear HB2 he
      go_wp2_with (go_at_call 71; refine (Tryz.Builder_String_any _ _ _ _ HB3.out hb.size).mono ?_; rintro e w1 ⟨rfl, hb1⟩)
      go_ret
      exact ⟨rfl, hb.trans hb1⟩

end Go.Proofs.YtfcjnoojcajljaaGreatDoor

/-
  The contract of Print.
-/
namespace Go.Proofs.YtfcjnoojcajljaaGreatDoor
open Go.RowKit

def wordOf (n t : ByteArray) : ByteArray := n ++ ⟨#[61]⟩ ++ ⟨(writeL t.data.toList).toArray⟩
def wordsF (f : Fld) : List ByteArray := f.2.map (wordOf f.1)
def wordsL (fs : List Fld) : List ByteArray := fs.flatMap wordsF
def lineOf (fs : List Fld) : ByteArray := ⟨(Lib.join ((wordsL fs).map (·.data.toList)) [32]).toArray⟩

theorem wordsL_len {fs : List Fld} (h : ∀ f ∈ fs, fitsB f = true) (hl : fs.length ≤ 16) : (wordsL fs).length ≤ 128 := by
  have : ∀ l : List Fld, (∀ f ∈ l, fitsB f = true) → (wordsL l).length ≤ l.length * 8 := by
    intro l
    induction l with
    | nil => intro _; simp [wordsL]
    | cons f l ih =>
      intro hf
      have h1 := ih fun g hg => hf g (by simp [hg])
      have h2 := (fits_parts (hf f (by simp))).2.2.1
      have e : wordsL (f :: l) = wordsF f ++ wordsL l := rfl
      rw [e, List.length_append, List.length_cons, Nat.add_mul]
      have e2 : (wordsF f).length = f.2.length := by simp [wordsF]
      omega
  have := this fs h
  omega

theorem word_len {f : Fld} {t : ByteArray} (h : fitsB f = true) (ht : t ∈ f.2) : (wordOf f.1 t).size ≤ 417 := by
  obtain ⟨h1, _, _, h4, _⟩ := fits_parts h
  have h5 := h4 t ht
  have h6 := writeL_len t.data.toList
  have e : t.data.toList.length = t.size := by simp
  have e2 : (wordOf f.1 t).size = f.1.size + 1 + (writeL t.data.toList).length := by
    unfold wordOf
    rw [ByteArray.size_append, ByteArray.size_append]
    rfl
  omega

theorem words_len {fs : List Fld} (h : ∀ f ∈ fs, fitsB f = true) : ∀ x ∈ wordsL fs, x.size ≤ 417 := by
  intro x hx
  obtain ⟨f, hf, hx⟩ := List.mem_flatMap.1 hx
  obtain ⟨t, ht, rfl⟩ := List.mem_map.1 hx
  exact word_len (h f hf) ht

theorem join_two (l m : List UInt8) (ls : List (List UInt8)) : Lib.join (l :: m :: ls) [32] = l ++ 32 :: Lib.join (m :: ls) [32] := by simp [Lib.join, List.intercalate]

theorem join_len (ls : List (List UInt8)) (c : Nat) (h : ∀ l ∈ ls, l.length ≤ c) : (Lib.join ls [32]).length ≤ ls.length * (c + 1) := by
  induction ls with
  | nil => simp [Lib.join]
  | cons l ls ih =>
    have h1 := h l (by simp)
    have h2 := ih fun m hm => h m (by simp [hm])
    cases ls with
    | nil => simp [Lib.join]; omega
    | cons m ls =>
      rw [join_two, List.length_append, List.length_cons, List.length_cons, Nat.add_mul]
      omega

theorem join_any (ws : List ByteArray) (p : Option Addr) (cap : Nat) (w : World) {n0 : Nat} (h : OwnT n0 w (.slice p ws.length cap) ws) (hn : ws.length ≤ 128) (hs : ∀ x ∈ ws, x.size ≤ 417) :
    Calls Tryz.prog 42 #[.slice p ws.length cap, .string ⟨#[32]⟩] w fun e w' => e = .returned (.string ⟨(Lib.join (ws.map (·.data.toList)) [32]).toArray⟩) ∧ Below w.heap.size w w' := by
  rcases h.2 with ⟨_, h0⟩ | ⟨g, c, cur, hv, _, hg, hcap, _, hsz, htk⟩
  · obtain rfl := List.length_eq_zero_iff.1 h0
    refine (Tryz.strings_Join_none p cap _ w).mono ?_
    rintro e w' ⟨rfl, rfl⟩
    exact ⟨rfl, Below.refl _ _⟩
  · injection hv with hp hl hc
    subst hp
    subst hc
    refine (Tryz.strings_Join g 0 cap ws ⟨#[32]⟩ w (fun j x hj => ?_) (Array.getElem?_eq_some_iff.1 hg).1 (by omega) (by omega) ?_).mono ?_
    · have hjl := (List.getElem?_eq_some_iff.1 hj).1
      rw [Nat.zero_add, cell_of_row w g j cur _ _ hg, ← Array.getElem?_toList]
      have : (ws.map Value.string)[j]? = cur.toList[j]? := by rw [← htk, List.getElem?_take, if_pos (by omega)]
      rw [← this, List.getElem?_map, hj]; rfl
    · have h1 := join_len (ws.map (·.data.toList)) 417 (fun l hl => by
        obtain ⟨x, hx, rfl⟩ := List.mem_map.1 hl
        have := hs x hx
        simpa using this)
      rw [List.length_map] at h1
      have h2 : ws.length * 418 ≤ 128 * 418 := Nat.mul_le_mul_right _ hn
      show (Lib.join (ws.map (·.data.toList)) [32]).length ≤ _
      omega
    · rintro e w' ⟨rfl, hb⟩
      exact ⟨rfl, hb⟩

end Go.Proofs.YtfcjnoojcajljaaGreatDoor

/-
  The chapter's examples: the plain answers.
-/
namespace Go.Proofs.YtfcjnoojcajljaaGreatDoor
open Go.RowKit Go.Sort Go.Lib

def fixA : List Fld := [(⟨#[98]⟩, [⟨#[120]⟩]), (⟨#[97]⟩, [⟨#[121]⟩]), (⟨#[98]⟩, [⟨#[122]⟩])]
def fixN : List Fld := [(⟨#[97]⟩, [⟨#[121]⟩]), (⟨#[98]⟩, [⟨#[120]⟩, ⟨#[122]⟩])]
def fixE : List Fld := [(⟨#[97]⟩, [⟨#[120]⟩, ⟨#[]⟩])]
def fixP : List Fld := [(⟨#[98]⟩, [⟨#[49]⟩]), (⟨#[97]⟩, [⟨#[50]⟩])]
def fixQ : List Fld := [(⟨#[97]⟩, [⟨#[50]⟩]), (⟨#[98]⟩, [⟨#[49]⟩])]

theorem ltN_eq (a b : ByteArray) : ltN a b = ltB a b := by
  unfold ltN ltB
  rw [Lib.toList_data, Lib.toList_data, cb_less]

theorem mayB_eq (fs : List Fld) : mayB fs = (decide (fs.length ≤ 16) && (List.range fs.length).all fun i => fitsB (fs.getD i default) && (decide (i = 0) || ltB (fs.getD (i - 1) default).1 (fs.getD i default).1)) := by
  unfold mayB stepOk
  simp only [ltN_eq]

theorem fixA_mis : fixA.any misB = false := by decide
theorem fixA_norm : normF fixA = fixN := by decide
theorem fixN_bare : fixN.any bareB = false := by decide
theorem fixN_may : mayB fixN = true := by rw [mayB_eq]; decide
theorem fixN_line : lineOf fixN = ⟨#[97, 61, 121, 32, 98, 61, 120, 32, 98, 61, 122]⟩ := by decide
theorem fixE_may : mayB fixE = true := by decide
theorem fixE_enc : encL fixE = [1, 1, 97, 2, 1, 120, 0] := by decide
theorem fixE_dec : decodeO [1, 1, 97, 2, 1, 120, 0] = some fixE := by decide
theorem fixE_size : sizeN fixE = 7 := by decide
theorem fixP_mis : fixP.any misB = false := by decide
theorem fixP_norm : normF fixP = fixQ := by decide
theorem fixQ_bare : fixQ.any bareB = false := by decide
theorem fixQ_may : mayB fixQ = true := by rw [mayB_eq]; decide
theorem fix_write : writeL [97, 32, 98] = [97, 37, 50, 48, 98] := by decide
theorem fix_texts : textsOf fixN ⟨#[98]⟩ = [⟨#[120]⟩, ⟨#[122]⟩] := by decide
theorem fix_read : readL [97, 37, 50, 48, 98] = some [97, 32, 98] := by
  rw [readL_some (c := 97) (n := 1) (by decide)]
  show (readL [37, 50, 48, 98]).map _ = _
  rw [readL_some (c := 32) (n := 3) (by decide)]
  show ((readL [98]).map _).map _ = _
  rw [readL_some (c := 98) (n := 1) (by decide)]
  show (((readL []).map _).map _).map _ = _
  rw [readL_nil]
  rfl
theorem fix_split : splitL [98, 61, 49, 32, 97, 61, 50] = [[98, 61, 49], [97, 61, 50]] := by
  rw [splitL_yes (i := 3) (by decide)]
  show [98, 61, 49] :: splitL [97, 61, 50] = _
  rw [splitL_no (by decide)]
theorem fix_one (c : UInt8) (h : firstP [c] = some (c, 1)) : readL [c] = some [c] := by
  rw [readL_some h]
  show (readL []).map _ = _
  rw [readL_nil]
  rfl
theorem fix_words : fieldsW (splitL [98, 61, 49, 32, 97, 61, 50]) = some fixP := by
  rw [fix_split]
  have h1 : wordO [98, 61, 49] = some ([98], [49]) := by
    unfold wordO
    rw [if_neg (by decide), show (Lib.indexByte [98, 61, 49] 61).toNat = 1 by decide]
    show (readL [49]).map _ = _
    rw [fix_one 49 (by decide)]; rfl
  have h2 : wordO [97, 61, 50] = some ([97], [50]) := by
    unfold wordO
    rw [if_neg (by decide), show (Lib.indexByte [97, 61, 50] 61).toNat = 1 by decide]
    show (readL [50]).map _ = _
    rw [fix_one 50 (by decide)]; rfl
  simp only [fieldsW, h1, h2]
  rfl

end Go.Proofs.YtfcjnoojcajljaaGreatDoor

/-
  fixed answers true.
-/
namespace Go.Proofs.YtfcjnoojcajljaaGreatDoor
open Go.RowKit Go.Sort Go.Lib

theorem fitF_small (fs : List Fld) (h : fs.all (fun f => decide (f.1.size ≤ 100) && decide (f.2.length ≤ 100) && f.2.all fun t => decide (t.size ≤ 100)) = true) : ∀ f ∈ fs, FitF f := by
  intro f hf
  rw [List.all_eq_true] at h
  have := h f hf
  simp only [Bool.and_eq_true, decide_eq_true_eq, List.all_eq_true] at this
  exact ⟨Nat.le_trans this.1.1 (by decide), Nat.le_trans this.1.2 (by decide), fun t ht => Nat.le_trans (this.2 t ht) (by decide)⟩

theorem fitFx {d : List Fx} {fs : List Fld} (h : d.map Fx.fld = fs) (hl : fs.length ≤ 100) (hf : ∀ f ∈ fs, FitF f) : FitX d := by
  subst h
  rw [List.length_map] at hl
  exact ⟨Nat.le_trans hl (by decide), fun x hx => hf _ (List.mem_map.2 ⟨x, hx, rfl⟩)⟩

theorem fixA_fit : ∀ f ∈ fixA, FitF f := fitF_small _ (by decide)
theorem fixN_fit : ∀ f ∈ fixN, FitF f := fitF_small _ (by decide)
theorem fixE_fit : ∀ f ∈ fixE, FitF f := fitF_small _ (by decide)
theorem fixQ_fit : ∀ f ∈ fixQ, FitF f := fitF_small _ (by decide)

/-- What an answer of Norm or Parse is known by. -/
def OwnAns (w : World) (fs : List Fld) (n : Nat) (e : Ending) (w' : World) : Prop :=
  ∃ p c d, e = .returned (.tuple #[.slice p n c, .int .i64 0]) ∧ OwnXs w.heap.size w' (.slice p n c) d ∧ d.map Fx.fld = fs ∧ Below w.heap.size w w'

theorem own_len {n0 : Nat} {w : World} {u : Value} {d : List Fx} (h : OwnXs n0 w u d) : ∃ p c, u = .slice p d.length c := by
  rcases h.1.2 with ⟨rfl, h0⟩ | ⟨g, cap, cur, rfl, _⟩
  · exact ⟨none, 0, by rw [h0]⟩
  · exact ⟨_, _, rfl⟩

theorem ownAns_of {w w' : World} {u : Value} {d : List Fx} {fs : List Fld} {n : Nat} (hn : fs.length = n) (ho : OwnXs w.heap.size w' u d) (hm : d.map Fx.fld = fs) (hb : Below w.heap.size w w') : OwnAns w fs n (.returned (.tuple #[u, .int .i64 0])) w' := by
  obtain ⟨p, c, rfl⟩ := own_len ho
  have e : d.length = n := by rw [← hn, ← hm, List.length_map]
  rw [e] at ho ⊢
  exact ⟨p, c, d, rfl, ho, hm, hb⟩

theorem own_rest {n0 : Nat} {w : World} {g c : Nat} {l : List UInt8} (h : OwnB n0 w (.slice (some ⟨g, 0, none⟩) l.length c) l) : RestAt w.heap.size w (.slice (some ⟨g, 0, none⟩) l.length c) l := by
  rcases h.2 with ⟨hv, _⟩ | ⟨g', cap, cur, hv, _, hg, hc, hcm, hsz, htk⟩
  · cases hv
  · cases hv
    refine ⟨_, _, rfl, by omega, by omega, Or.inr ⟨g, 0, rfl, (Array.getElem?_eq_some_iff.1 hg).1, fun i hi => ?_⟩⟩
    rw [Nat.zero_add, cell_of_row w g i cur _ _ hg]
    have : (Lib.byteCells l)[i]? = cur.toList[i]? := by
      rw [← htk, List.getElem?_take, if_pos (by omega)]
    rw [← Array.getElem?_toList, ← this]
    simp [Lib.byteCells, hi]

theorem fix_readc (w : World) (hp : PlainAt w) : Calls Tryz.prog 77 #[.string ⟨#[97, 37, 50, 48, 98]⟩] w fun e w' => e = .returned (.tuple #[.string ⟨#[97, 32, 98]⟩, .int .i64 0]) ∧ Below w.heap.size w w' := by
  have := read_any ⟨#[97, 37, 50, 48, 98]⟩ w hp (by decide)
  rw [show (⟨#[97, 37, 50, 48, 98]⟩ : ByteArray).data.toList = [97, 37, 50, 48, 98] from rfl, fix_read] at this
  exact this

theorem fix_writec (w : World) (hp : PlainAt w) : Calls Tryz.prog 68 #[.string ⟨#[97, 32, 98]⟩] w fun e w' => e = .returned (.string ⟨#[97, 37, 50, 48, 98]⟩) ∧ Below w.heap.size w w' := by
  have := write_any ⟨#[97, 32, 98]⟩ w hp (by decide)
  rw [show (⟨#[97, 32, 98]⟩ : ByteArray).data.toList = [97, 32, 98] from rfl, fix_write] at this
  exact this

theorem fix_textsc (v : Value) (d : List Fx) (w : World) (hv : IsXs w v d) (hm : d.map Fx.fld = fixN) : Calls Tryz.prog 39 #[v, .string ⟨#[98]⟩] w fun e w' => (∃ p c, e = .returned (.slice p 2 c)) ∧ Below w.heap.size w w' := by
  have hft := fitFx hm (by decide) fixN_fit
  have := texts_any v ⟨#[98]⟩ d w hv hft (fun x hx => by
    have hx' : x.fld ∈ fixN := by rw [← hm]; exact List.mem_map.2 ⟨x, hx, rfl⟩
    have h2 : ∀ f ∈ fixN, f.2.length ≤ 2 := by decide
    have h3 : x.txt.length ≤ 2 := h2 _ hx'
    omega)
  rw [hm, fix_texts] at this
  refine this.mono ?_
  rintro e w' ⟨⟨u, rfl, ho⟩, hq⟩
  obtain ⟨p, c, rfl⟩ := own_slice ho
  exact ⟨⟨p, c, rfl⟩, hq⟩

theorem lit_row {w : World} {b : Nat} {cs : Array Value} {T : TypeId} {d : List Fx} {n cap : Nat} (h : w.heap[b]? = some (.cells cs T (0, 0))) (hcs : cs.toList = cellsX d) (hn : n = d.length) (ht : ∀ x ∈ d, x.at w) : IsXs w (.slice (some ⟨b, 0, none⟩) n cap) d := by
  subst hn
  refine ⟨_, _, rfl, Or.inr ⟨b, 0, rfl, fun i hi => ?_⟩, ht⟩
  obtain ⟨c0, c1⟩ := cellsX_get d i hi
  rw [Nat.zero_add, cell_of_row w b _ cs _ _ h, cell_of_row w b _ cs _ _ h, ← Array.getElem?_toList, ← Array.getElem?_toList, hcs]
  exact ⟨c0, c1⟩

theorem lit_txt {w : World} {b : Nat} {cs : Array Value} {T : TypeId} {ts : List ByteArray} (h : w.heap[b]? = some (.cells cs T (0, 0))) (hcs : cs.toList = ts.map Value.string) : TxtAt w (some ⟨b, 0, none⟩) ts := by
  refine Or.inr ⟨b, 0, rfl, fun i hi => ?_⟩
  rw [Nat.zero_add, cell_of_row w b i cs _ _ h, ← Array.getElem?_toList, hcs]
  simp [hi]

end Go.Proofs.YtfcjnoojcajljaaGreatDoor

/-
  ValueBytes answers true.
-/
namespace Go.Proofs.YtfcjnoojcajljaaGreatDoor
open Go.RowKit

theorem ownB_rest {n0 : Nat} {w : World} {u : Value} {l : List UInt8} (h : OwnB n0 w u l) : RestAt w.heap.size w u l := by
  rcases h.2 with ⟨rfl, h0⟩ | ⟨g', cap, cur, rfl, _⟩
  · obtain rfl := List.length_eq_zero_iff.1 h0
    exact ⟨none, 0, rfl, by simp, by unfold maxLen; omega, Or.inl rfl⟩
  · exact own_rest h

theorem ownB_slice {n0 : Nat} {w : World} {u : Value} {l : List UInt8} (h : OwnB n0 w u l) : ∃ p c, u = .slice p l.length c := by
  rcases h.2 with ⟨rfl, h0⟩ | ⟨g', cap, cur, rfl, _⟩
  · exact ⟨none, 0, by rw [h0]⟩
  · exact ⟨_, _, rfl⟩

end Go.Proofs.YtfcjnoojcajljaaGreatDoor

/-
  The contract of the reference's Write.
-/
namespace Go.Proofs.YtfcjnoojcajljaaGreatDoor
open Go.RowKit

theorem new_bytes3 (w : World) (a b c : Int) : ∀ j u, ([.int .u8 a, .int .u8 b, .int .u8 c] : List Value)[j]? = some u → (w.alloc (.cells #[.int .u8 a, .int .u8 b, .int .u8 c] 5)).cell? ((⟨w.heap.size, 0, none⟩ : Addr).add j) = some u := by
  intro j u hj
  match j, hj with
  | 0, hj => simp at hj; subst hj; simp [Addr.add]
  | 1, hj => simp at hj; subst hj; rw [addr_add]; simp
  | 2, hj => simp at hj; subst hj; rw [addr_add]; simp

theorem one_bytes3 (a b c : Int) : ∀ u ∈ ([.int .u8 a, .int .u8 b, .int .u8 c] : List Value), u.oneCell' = true := by
  intro u hu; simp at hu; rcases hu with rfl | rfl | rfl <;> rfl

theorem ownB_puts {n0 : Nat} {w : World} {v : Value} {bs cs : List UInt8} {n : Nat} {xs : List Value} (h : w.ownsRow n0 5 1 v n (Lib.byteCells bs ++ xs)) (hn : n = bs.length + cs.length) (hx : Lib.byteCells cs = xs) : OwnB n0 w v (bs ++ cs) := by
  subst hn hx
  unfold OwnB
  rw [List.length_append]
  have : Lib.byteCells (bs ++ cs) = Lib.byteCells bs ++ Lib.byteCells cs := by simp [Lib.byteCells]
  rw [this]
  exact h

theorem rdigitI (n : Int) (w : World) (h : 0 ≤ n ∧ n < 16) : Calls Tryz.prog 73 #[.int .u8 n] w fun e w' => e = .returned (.int .u8 ((hexd n.toNat).toNat : Nat)) ∧ w' = w := by
  have := rdigit_any n.toNat (by omega) w
  rw [show ((n.toNat : Nat) : Int) = n by omega] at this
  exact this

theorem wrap_byte (n : Int) (h : 0 ≤ n ∧ n < 256) : IntKind.u8.wrap n = n := by
  simp [IntKind.wrap, IntKind.signed, IntKind.bits]; omega

set_option maxHeartbeats 4000000 in
set_option maxRecDepth 100000 in
theorem rwrite_any (s : ByteArray) (w : World) (hs : s.size * 3 ≤ 140737488355328) :
    Calls Tryz.prog 43 #[.string s] w fun e w' => e = .returned (.string ⟨(writeL s.data.toList).toArray⟩) ∧ Below w.heap.size w w' := by
  obtain ⟨i0, hi0, hz0, hz1, hz2⟩ := info_parts Tryz.infoByte
  have HI := hid hi0
  clear hi0
  have mixed := Tryz.mixed
  go_enter Tryz.func43, Tryz.ntmps43
  go_wp2_with fail
  go_loopg [3, 4] s.size (fun g vb vi wr => ∃ i : Nat, vi = .int .i64 i ∧ i ≤ s.size ∧ s.size - i ≤ g ∧ Below w.heap.size w wr ∧ OwnB w.heap.size wr vb (writeL (s.data.toList.take i)))
  case atStart => exact ⟨0, rfl, by omega, by omega, Below.refl _ _, World.ownsRow_nil _ _ _ _⟩
  case round =>
    obtain ⟨i, rfl, hi, hgk, hb, hob⟩ := hrel
    have hszr := hb.size
    by_cases hlt : i < s.size
    · have hltz : (i : Int) < (s.size : Int) := by omega
      have hiz : (0 : Int) ≤ i := by omega
      have hst := write_step s i hlt
      have hal := writeL_len (s.data.toList.take i)
      rw [List.length_take] at hal
      obtain ⟨acc, hacc⟩ : ∃ acc, writeL (s.data.toList.take i) = acc := ⟨_, rfl⟩
      rw [hacc] at hob hst hal
      have hal2 : acc.length ≤ 3 * i := Nat.le_trans hal (Nat.mul_le_mul_left _ (Nat.min_le_left _ _))
      obtain ⟨c, hc⟩ : ∃ c, s[i] = c := ⟨_, rfl⟩
      have hcc := hc
      rw [hc] at hst
      have HST := hid hst
      have HOB := hid hob
      have HB := hid hb
      have hc256 := c.toNat_lt
      clear hst hob hb hal hacc
      cases hp : plainB (c.toNat : Int) with
      | true =>
        have HW : Hid (writeC c = [c]) := by show _ = _; unfold writeC; rw [if_pos hp]
        have HPL : Hid (∀ W, Calls Tryz.prog 72 #[.int .u8 (c.toNat : Nat)] W fun e w' => e = .returned (.bool true) ∧ w' = W) := fun W => by have := rplain_any (c.toNat : Int) W; rw [hp] at this; exact this
        clear hp
        go_wp2_with (first | (go_at_call 72; refine (HPL.out _).mono ?_; rintro e w1 ⟨rfl, rfl⟩) | (at_builtin; refine wpList_append_own _ rfl _ _ 78 rfl w.heap.size 5 i0 (.int .u8 0) 1 1 Tryz.underlying78 HI.out hz0 hz1 hz2 rfl (by decide) _ _ _ rfl (World.ownsRow.alloc HOB.out _) ⟨w1.heap.size, 0, none⟩ 1 1 [.int .u8 (c.toNat : Int)] rfl rfl (new_byte _ _) (one_byte _) (by unfold maxLen; omega) (by omega) (by simp; omega) ?_))
        intro v3 w3 hown3 hg3 _
        have hob3 : OwnB w.heap.size w3 v3 (acc ++ [c]) := ownB_put hown3 (by omega) rfl
        have hb3 : Below w.heap.size w w3 := (HB.out.alloc (by omega) _).grown hg3 (by simp; omega) (fun k hk => (World.ownsRow.lt HOB.out k hk).1)
        have HOB3 := hid hob3
        have HB3 := hid hb3
        clear hown3 hg3 hob3 hb3
        go_wp2_with fail
        go_roundg (s.size - (i + 1))
        case measure => omega
        refine ⟨i + 1, by go_num, by omega, by omega, HB3.out, ?_⟩
        rw [HST.out, HW.out]
        exact HOB3.out
      | false =>
        have HW : Hid (writeC c = [37, hexd (c.toNat / 16), hexd (c.toNat % 16)]) := by show _ = _; unfold writeC; rw [hp]; rfl
        have HPL : Hid (∀ W, Calls Tryz.prog 72 #[.int .u8 (c.toNat : Nat)] W fun e w' => e = .returned (.bool false) ∧ w' = W) := fun W => by have := rplain_any (c.toNat : Int) W; rw [hp] at this; exact this
        clear hp
        go_wp2_with (first | (go_at_call 72; refine (HPL.out _).mono ?_; rintro e w1 ⟨rfl, rfl⟩))
        have HQ : Hid ((IntKind.u8.wrap ((c.toNat : Int) / 16)).toNat = c.toNat / 16 ∧ ((c.toNat : Int).tmod 16).toNat = c.toNat % 16) := ⟨by rw [wrap_byte _ (by omega)]; omega, by rw [Int.tmod_eq_emod_of_nonneg (by omega)]; omega⟩
        go_region_law (first
          | (refine step_append_lies _ (by rfl) (.tmp 21) (.tmp 32) 78 (by rfl) w.heap.size 5 i0 (.int .u8 0) 1 1 Tryz.underlying78 HI.out hz0 hz1 hz2 rfl (by decide) u3 acc.length (Lib.byteCells acc) (by rfl) (World.ownsRow.alloc (w := w1.drew) HOB.out _) _ 3 3 [.int .u8 37, .int .u8 ((hexd (IntKind.u8.wrap ((c.toNat : Int) / 16)).toNat).toNat : Nat), .int .u8 ((hexd ((c.toNat : Int).tmod 16).toNat).toNat : Nat)] (by rfl) rfl (new_bytes3 _ _ _ _) (one_bytes3 _ _ _) (by decide) (by unfold maxLen; omega) (by omega) (by simp; omega) _ rfl ?_; intro g4 cap4 w4 hown4 hg4 _ _)
          | (go_simp; go_at_call 73; refine (rdigitI _ _ (by first | (rw [wrap_byte _ (by omega)]; omega) | (rw [Int.tmod_eq_emod_of_nonneg (by omega)]; omega))).mono ?_; rintro o w2 ⟨rfl, rfl⟩))
        all_goals
          have hob4 : OwnB w.heap.size w4 (.slice (some ⟨g4, 0, none⟩) (acc.length + 3) cap4) (acc ++ [37, hexd (c.toNat / 16), hexd (c.toNat % 16)]) := ownB_puts hown4 rfl (by rw [HQ.out.1, HQ.out.2]; rfl)
          have hb4 : Below w.heap.size w w4 := ((bel_drewN HB.out 1).alloc hszr _).grown hg4 (by have h1 : w.heap.size ≤ (w1.drewN 1).heap.size := hszr; simp; omega) (fun k hk => (World.ownsRow.lt HOB.out k hk).1)
          have HOB4 := hid hob4
          have HB4 := hid hb4
          clear hown4 hg4 hob4 hb4
          go_wp2_with fail
          go_roundg (s.size - (i + 1))
          case measure => omega
          refine ⟨i + 1, by go_num, by omega, by omega, HB4.out, ?_⟩
          rw [HST.out, HW.out]
          exact HOB4.out
    · have hltz : ¬ (i : Int) < (s.size : Int) := by omega
      have htk2 : s.data.toList.take i = s.data.toList := List.take_of_length_le (by simp; omega)
      rw [htk2] at hob
      have kc := conv_any (ownB_rest hob)
      have HOJ := hid hob
      clear hob htk2
      go_wp2_with fail
      go_ret
      exact ⟨rfl, hb⟩

end Go.Proofs.YtfcjnoojcajljaaGreatDoor

/-
  How long a value's bytes are, and how many blanks its line has.
-/
namespace Go.Proofs.YtfcjnoojcajljaaGreatDoor
open Go.RowKit Go.Lib

/-- What ValueSizes counts. -/
def cntF (f : Fld) : Nat := 2 + f.1.size + (f.2.map fun t => 1 + t.size).sum
def cntB (fs : List Fld) : Nat := 1 + (fs.map cntF).sum

theorem encTs_len (ts : List ByteArray) : (ts.flatMap encT).length = (ts.map fun t => 1 + t.size).sum := by
  induction ts with
  | nil => rfl
  | cons t ts ih =>
    rw [List.flatMap_cons, List.length_append, encT_len, ih, List.map_cons, List.sum_cons]
    omega

theorem encF_cnt (f : Fld) : (encF f).length = cntF f := by
  unfold encF cntF
  rw [List.length_append, List.length_append, encT_len, encTs_len]
  simp only [List.length_cons, List.length_nil]
  omega

theorem encL_cnt (fs : List Fld) : (encL fs).length = cntB fs := by
  unfold encL cntB
  rw [List.length_cons]
  have : (fs.flatMap encF).length = (fs.map cntF).sum := by
    induction fs with
    | nil => rfl
    | cons f fs ih => rw [List.flatMap_cons, List.length_append, encF_cnt, ih, List.map_cons, List.sum_cons]
  omega

/-- The blanks of a text. -/
def blanks (l : List UInt8) : Nat := l.countP fun c => c == 32

theorem blanks_append (a b : List UInt8) : blanks (a ++ b) = blanks a + blanks b := List.countP_append ..

theorem blanks_join : ∀ ws : List (List UInt8), (∀ w ∈ ws, blanks w = 0) → blanks (Lib.join ws [32]) = ws.length - 1
  | [], _ => rfl
  | [w], h => by
    have := h w (by simp)
    simpa [Lib.join] using this
  | w :: v :: ws, h => by
    have h1 := h w (by simp)
    have ih := blanks_join (v :: ws) (fun x hx => h x (by simp [hx]))
    have e : Lib.join (w :: v :: ws) [32] = w ++ [32] ++ Lib.join (v :: ws) [32] := by simp [Lib.join]
    rw [e, blanks_append, blanks_append, h1, ih]
    simp [blanks]
    omega

theorem field_noblank {l : List UInt8} (h : fieldB l = true) : blanks l = 0 := by
  unfold blanks
  rw [List.countP_eq_zero]
  intro c hc
  unfold fieldB spell at h
  cases l with
  | nil => simp at hc
  | cons x r =>
    simp only [Bool.and_eq_true, List.all_eq_true] at h
    have key : lodB (c.toNat : Int) = true ∨ smallB (c.toNat : Int) = true := by
      rcases List.mem_cons.1 hc with rfl | hc
      · exact Or.inr h.1.2
      · exact Or.inl (h.2 c hc)
    intro e
    have e : c = 32 := by simpa using e
    subst e
    rcases key with k | k
    · revert k; decide
    · revert k; decide

theorem hexd_noblank (k : Nat) (h : k < 16) : (hexd k == 32) = false := by
  have t : ((List.range 16).all fun k => !(hexd k == 32)) = true := by decide
  have := List.all_eq_true.1 t k (List.mem_range.2 h)
  simpa using this

theorem write_noblank (l : List UInt8) : blanks (writeL l) = 0 := by
  induction l with
  | nil => rfl
  | cons c l ih =>
    rw [writeL_cons, blanks_append, ih]
    unfold writeC
    cases hp : plainB (c.toNat : Int) with
    | true =>
      have : (c == 32) = false := by
        rw [beq_eq_false_iff_ne]
        intro e
        subst e
        revert hp; decide
      simp [blanks, this]
    | false =>
      have hc := c.toNat_lt
      simp [blanks, hexd_noblank (c.toNat / 16) (by omega), hexd_noblank (c.toNat % 16) (by omega)]

theorem word_data (n t : ByteArray) : (wordOf n t).data.toList = n.data.toList ++ [61] ++ writeL t.data.toList := by
  unfold wordOf
  obtain ⟨⟨n⟩⟩ := n
  simp

theorem word_noblank {n t : ByteArray} (h : fieldB n.data.toList = true) : blanks (wordOf n t).data.toList = 0 := by
  rw [word_data, blanks_append, blanks_append, field_noblank h, write_noblank]
  rfl

theorem words_cnt (fs : List Fld) : (wordsL fs).length = totF fs := by
  unfold wordsL totF
  induction fs with
  | nil => rfl
  | cons f fs ih => rw [List.flatMap_cons, List.length_append, ih]; simp [wordsF]

theorem line_blanks {fs : List Fld} (h : mayB fs = true) : blanks (lineOf fs).data.toList = totF fs - 1 := by
  unfold lineOf
  show blanks (Lib.join ((wordsL fs).map (·.data.toList)) [32]).toArray.toList = _
  rw [List.toList_toArray, blanks_join, List.length_map, words_cnt]
  intro w hw
  obtain ⟨x, hx, rfl⟩ := List.mem_map.1 hw
  obtain ⟨f, hf, hx⟩ := List.mem_flatMap.1 hx
  obtain ⟨t, _, rfl⟩ := List.mem_map.1 hx
  exact word_noblank (fits_parts (may_fits h f hf)).2.2.2.2

theorem line_empty (fs : List Fld) : (lineOf fs).size = 0 ↔ totF fs = 0 := by
  have e : (lineOf fs).size = (Lib.join ((wordsL fs).map (·.data.toList)) [32]).length := by
    show (Lib.join ((wordsL fs).map (·.data.toList)) [32]).toArray.size = _
    simp
  rw [e, ← words_cnt]
  cases hw : wordsL fs with
  | nil => simp [Lib.join, List.intercalate]
  | cons x r =>
    have hx : x ∈ wordsL fs := by rw [hw]; simp
    obtain ⟨f, hf, hx⟩ := List.mem_flatMap.1 hx
    obtain ⟨t, _, rfl⟩ := List.mem_map.1 hx
    have hl : 0 < (wordOf f.1 t).data.toList.length := by rw [word_data]; simp; omega
    constructor
    · intro h
      exfalso
      cases r with
      | nil =>
        rw [List.map_cons, List.map_nil, Lib.join_one] at h
        omega
      | cons y r =>
        have : Lib.join ((wordOf f.1 t :: y :: r).map (·.data.toList)) [32] = (wordOf f.1 t).data.toList ++ [32] ++ Lib.join ((y :: r).map (·.data.toList)) [32] := by simp [Lib.join]
        rw [this] at h
        simp at h
    · intro h; simp at h

theorem join_size (c : Nat) : ∀ ws : List (List UInt8), (∀ w ∈ ws, w.length ≤ c) → (Lib.join ws [32]).length ≤ ws.length * (c + 1)
  | [], _ => by simp [Lib.join, List.intercalate]
  | [w], h => by
    have := h w (by simp)
    rw [Lib.join_one]
    simp
    omega
  | w :: v :: ws, h => by
    have h1 := h w (by simp)
    have ih := join_size c (v :: ws) (fun x hx => h x (by simp [hx]))
    have e : Lib.join (w :: v :: ws) [32] = w ++ [32] ++ Lib.join (v :: ws) [32] := by simp [Lib.join]
    have e2 : (w :: v :: ws).length * (c + 1) = (v :: ws).length * (c + 1) + (c + 1) := by rw [List.length_cons, Nat.add_mul, Nat.one_mul]
    have e3 : ([32] : List UInt8).length = 1 := rfl
    rw [e, List.length_append, List.length_append, e2, e3]
    omega

theorem line_size {fs : List Fld} (h : mayB fs = true) : (lineOf fs).size ≤ 53504 := by
  have e : (lineOf fs).size = (Lib.join ((wordsL fs).map (·.data.toList)) [32]).length := by
    show (Lib.join ((wordsL fs).map (·.data.toList)) [32]).toArray.size = _
    simp
  have h1 := join_size 417 ((wordsL fs).map (·.data.toList)) (fun w hw => by
    obtain ⟨x, hx, rfl⟩ := List.mem_map.1 hw
    obtain ⟨f, hf, hx⟩ := List.mem_flatMap.1 hx
    obtain ⟨t, ht, rfl⟩ := List.mem_map.1 hx
    simpa using word_len (may_fits h f hf) ht)
  have h2 := wordsL_len (fun f hf => may_fits h f hf) (may_parts h).1
  rw [List.length_map] at h1
  have h3 : (wordsL fs).length * (417 + 1) ≤ 128 * (417 + 1) := Nat.mul_le_mul_right _ h2
  omega

theorem cnt_small {fs : List Fld} (h : mayB fs = true) (i : Nat) : 1 + ((fs.take i).map cntF).sum ≤ 17057 := by
  have h1 : ((fs.take i).map cntF).sum = ((fs.take i).flatMap encF).length := by
    generalize fs.take i = gs
    induction gs with
    | nil => rfl
    | cons f gs ih => rw [List.flatMap_cons, List.length_append, encF_cnt, ← ih, List.map_cons, List.sum_cons]
  have := enc_ahead h i
  omega

theorem tot_small {fs : List Fld} (h : mayB fs = true) (i : Nat) : totF (fs.take i) ≤ 128 := by
  rw [← words_cnt]
  refine wordsL_len (fun f hf => may_fits h f (List.mem_of_mem_take hf)) ?_
  have := (may_parts h).1
  rw [List.length_take]
  omega

end Go.Proofs.YtfcjnoojcajljaaGreatDoor

/-
  The contract of the reference's Print.
-/
namespace Go.Proofs.YtfcjnoojcajljaaGreatDoor
open Go.RowKit Go.Lib

def lineB (ws : List ByteArray) : ByteArray := ⟨(Lib.join (ws.map (·.data.toList)) [32]).toArray⟩

theorem lineB_data (ws : List ByteArray) : (lineB ws).data.toList = Lib.join (ws.map (·.data.toList)) [32] := by
  unfold lineB
  rw [List.toList_toArray]

theorem join_snoc : ∀ (ws : List (List UInt8)) (x : List UInt8), ws ≠ [] → Lib.join (ws ++ [x]) [32] = Lib.join ws [32] ++ 32 :: x
  | [], _, h => absurd rfl h
  | [w], x, _ => by rw [List.singleton_append, join_two, Lib.join_one, Lib.join_one]
  | w :: v :: ws, x, _ => by
    have ih := join_snoc (v :: ws) x (by simp)
    rw [List.cons_append, List.cons_append, join_two, ← List.cons_append, ih, join_two]
    simp

theorem data_append (a b : ByteArray) : (a ++ b).data.toList = a.data.toList ++ b.data.toList := by
  simp

theorem lineB_first (n t : ByteArray) : lineB [wordOf n t] = ⟨#[]⟩ ++ n ++ ⟨#[61]⟩ ++ ⟨(writeL t.data.toList).toArray⟩ := by
  refine ba_eq ?_
  rw [lineB_data, List.map_cons, List.map_nil, Lib.join_one]
  unfold wordOf
  simp only [data_append]
  simp

theorem lineB_next {ws : List ByteArray} (h : ws ≠ []) (n t : ByteArray) : lineB (ws ++ [wordOf n t]) = lineB ws ++ ⟨#[32]⟩ ++ n ++ ⟨#[61]⟩ ++ ⟨(writeL t.data.toList).toArray⟩ := by
  refine ba_eq ?_
  rw [lineB_data, List.map_append, List.map_cons, List.map_nil, join_snoc _ _ (by simpa using h)]
  simp only [data_append, lineB_data]
  unfold wordOf
  simp only [data_append]
  simp

theorem lineB_size {ws : List ByteArray} (hn : ws.length ≤ 200) (hs : ∀ x ∈ ws, x.size ≤ 417) : (lineB ws).size ≤ 83600 := by
  have e : (lineB ws).size = (Lib.join (ws.map (·.data.toList)) [32]).length := by rw [← lineB_data]; simp
  have h1 := join_size 417 (ws.map (·.data.toList)) (fun w hw => by
    obtain ⟨x, hx, rfl⟩ := List.mem_map.1 hw
    simpa using hs x hx)
  rw [List.length_map] at h1
  have h3 : ws.length * (417 + 1) ≤ 200 * (417 + 1) := Nat.mul_le_mul_right _ hn
  omega

theorem lineB_ne {ws : List ByteArray} (h : ws ≠ []) (hs : ∀ x ∈ ws, 0 < x.size) : (lineB ws).toList.isEmpty = false := by
  rw [Lib.toList_data, lineB_data]
  match ws, h with
  | [x], _ =>
    have := hs x (by simp)
    rw [List.map_cons, List.map_nil, Lib.join_one]
    cases hx : x.data.toList with
    | nil =>
      have h3 : x.data.toList.length = x.size := by simp
      rw [hx] at h3
      simp at h3
      omega
    | cons _ _ => rfl
  | x :: y :: ws, _ =>
    rw [List.map_cons, List.map_cons, join_two]
    cases x.data.toList with
    | nil => rfl
    | cons _ _ => rfl

theorem word_pos (n t : ByteArray) : 0 < (wordOf n t).size := by
  have : 0 < (wordOf n t).data.toList.length := by rw [word_data]; simp; omega
  simpa using this

end Go.Proofs.YtfcjnoojcajljaaGreatDoor

/-
  The contract of the reference's Print of terms.
-/
namespace Go.Proofs.YtfcjnoojcajljaaGreatDoor
open Go.RowKit Go.Lib

/-- The word of a term. -/
def wordM (x : Tm) : ByteArray := x.1 ++ ⟨#[opC x.2.1]⟩ ++ ⟨(writeL x.2.2.data.toList).toArray⟩
/-- The line of terms. -/
def lineM (p : List Tm) : ByteArray := lineB (p.map wordM)

theorem wordM_data (x : Tm) : (wordM x).data.toList = x.1.data.toList ++ opC x.2.1 :: writeL x.2.2.data.toList := by
  unfold wordM
  simp only [data_append]
  simp

theorem lineM_nil : lineM [] = ⟨#[]⟩ := rfl

theorem lineM_first (x : Tm) : lineB [wordM x] = ⟨#[]⟩ ++ x.1 ++ ⟨#[opC x.2.1]⟩ ++ ⟨(writeL x.2.2.data.toList).toArray⟩ := by
  refine ba_eq ?_
  rw [lineB_data, List.map_cons, List.map_nil, Lib.join_one, wordM_data]
  simp only [data_append]
  simp

theorem lineM_next {ws : List ByteArray} (h : ws ≠ []) (x : Tm) : lineB (ws ++ [wordM x]) = lineB ws ++ ⟨#[32]⟩ ++ x.1 ++ ⟨#[opC x.2.1]⟩ ++ ⟨(writeL x.2.2.data.toList).toArray⟩ := by
  refine ba_eq ?_
  rw [lineB_data, List.map_append, List.map_cons, List.map_nil, join_snoc _ _ (by simpa using h)]
  simp only [data_append, lineB_data, wordM_data]
  simp

theorem wordM_len {x : Tm} (h1 : namedM x = true) (h2 : shortM x = true) : (wordM x).size ≤ 417 := by
  have e : (wordM x).size = (wordM x).data.toList.length := by simp
  have h3 := fieldB_len h1
  have h4 := writeL_len x.2.2.data.toList
  have h5 : x.2.2.data.toList.length = x.2.2.size := by simp
  have h6 := of_decide_eq_true h2
  rw [e, wordM_data, List.length_append, List.length_cons]
  omega

theorem ansM_all {p : List Tm} (x : Tm) (h : x ∈ ansM p) : namedM x = true ∧ rightM x = true ∧ shortM x = true := by
  unfold ansM at h
  by_cases hm : mayM p = 0
  · rw [if_pos hm] at h
    obtain ⟨_, h1, h2, h3⟩ := mayM_zero hm
    have hx := ((sortM_spec p).2 x).1 h
    exact ⟨List.all_eq_true.1 h1 x hx, List.all_eq_true.1 h2 x hx, List.all_eq_true.1 h3 x hx⟩
  · rw [if_neg hm] at h; simp at h

theorem ansM_len (p : List Tm) : (ansM p).length ≤ 8 := by
  unfold ansM
  by_cases hm : mayM p = 0
  · rw [if_pos hm]
    have := sortM_len p
    have := (mayM_zero hm).1
    omega
  · rw [if_neg hm]; simp

theorem rightM_range {x : Tm} (h : rightM x = true) : 1 ≤ x.2.1 ∧ x.2.1 ≤ 7 := by
  unfold rightM at h
  rw [Bool.and_eq_true, Bool.and_eq_true] at h
  exact ⟨of_decide_eq_true h.1.1, of_decide_eq_true h.1.2⟩

theorem sign_at (m : Nat) (h : m < 7) : Utf8.encode (((⟨#[61, 33, 94, 60, 62, 63, 45]⟩ : ByteArray)[m]'h).toNat : Int) = ⟨#[opC ((m : Int) + 1)]⟩ := by
  have : m = 0 ∨ m = 1 ∨ m = 2 ∨ m = 3 ∨ m = 4 ∨ m = 5 ∨ m = 6 := by omega
  rcases this with rfl | rfl | rfl | rfl | rfl | rfl | rfl <;> decide +revert

theorem wrap_i64 (n : Int) (h1 : -9223372036854775808 ≤ n) (h2 : n ≤ 9223372036854775807) : IntKind.i64.wrap n = n := by
  simp [IntKind.wrap, IntKind.signed, IntKind.bits]; omega

set_option maxHeartbeats 8000000 in
set_option maxRecDepth 100000 in
theorem rprintM_any (v : Value) (p : List Tm) (w : World) (hv : KM.Is w v p) (hf : FitM p) :
    Calls Tryz.prog 21 #[v] w fun e w' => e = .returned (.tuple #[.string (lineM (ansM p)), .int .i64 (mayM p)]) ∧ Below w.heap.size w w' := by
  have HN := hid (rnormM_any v p w hv hf)
  clear hv hf
  by_cases hm : mayM p = 0
  · have HAL := hid (fun x hx => ansM_all (p := p) x hx)
    have hal := ansM_len p
    have HM := hid hm
    obtain ⟨G, hG⟩ : ∃ G, ansM p = G := ⟨_, rfl⟩
    rw [hG] at HAL hal
    have HG := hid hG
    clear hm hG
    go_enter Tryz.func21, Tryz.ntmps21
    go_wp2_with (first | (go_at_call 11; refine HN.out.mono ?_; rintro e w1 ⟨⟨u, he, ho⟩, hb1⟩; rw [HM.out] at he; subst he; rw [HG.out] at ho; obtain ⟨p5, c5, hu, hd⟩ := Kind.own_is ho; subst hu; have HD := hid hd; have HB1 := hid hb1; clear ho hd hb1))
    go_loopg [6, 7] G.length (fun g vs vi wr => ∃ i : Nat, vi = .int .i64 i ∧ i ≤ G.length ∧ G.length - i ≤ g ∧ Hid (Below w1.heap.size w1 wr) ∧ vs = .string (lineB ((G.take i).map wordM)))
    case atStart => exact ⟨0, rfl, by omega, by omega, Below.refl _ _, rfl⟩
    case round =>
      obtain ⟨i, rfl, hi, hgk, HB, rfl⟩ := hrel
      by_cases hlt : i < G.length
      · have hltz : (i : Int) < (G.length : Int) := by omega
        have hiz : (0 : Int) ≤ i := by omega
        obtain ⟨b, off, rfl, hat⟩ : ∃ b off, p5 = some ⟨b, off, none⟩ ∧ KM.At w1 b off G := by
          rcases HD.out with h | h
          · subst h; simp at hlt
          · exact h
        have hkc : ∀ W, Below w1.heap.size w1 W → W.cell? ⟨b, off + i * 3, none⟩ = some (.string (G[i]).1) ∧ W.cell? ⟨b, off + i * 3 + 1, none⟩ = some (.int .i64 (G[i]).2.1) ∧ W.cell? ⟨b, off + i * 3 + 2, none⟩ = some (.string (G[i]).2.2) := fun W hW => km_cells (Kind.at_kept hat hW) i hlt
        obtain ⟨hn, hr, hs⟩ := HAL.out _ (List.getElem_mem hlt)
        have hor := rightM_range hr
        have hns := fieldB_len hn
        have hss := of_decide_eq_true hs
        have htk : (G.take (i + 1)).map wordM = (G.take i).map wordM ++ [wordM G[i]] := by
          rw [List.take_succ_eq_append_getElem hlt, List.map_append]; simp
        have has : ∀ y ∈ (G.take i).map wordM, y.size ≤ 417 := fun y hy => by
          obtain ⟨t, ht, rfl⟩ := List.mem_map.1 hy
          obtain ⟨a, _, c⟩ := HAL.out t (List.mem_of_mem_take ht)
          exact wordM_len a c
        have hls := lineB_size (ws := (G.take i).map wordM) (by simp; omega) has
        obtain ⟨x, hx⟩ : ∃ x, G[i] = x := ⟨_, rfl⟩
        rw [hx] at hkc hor hns hss htk
        obtain ⟨xf, xo, xt⟩ := x
        simp only at hkc hor hns hss
        have hns2 : xf.size ≤ 32 := by simpa using hns
        obtain ⟨S1, hS1, hS1s, hkey⟩ : ∃ S1 : ByteArray, S1 = (if i = 0 then ⟨#[]⟩ else lineB ((G.take i).map wordM) ++ ⟨#[32]⟩) ∧ S1.size ≤ 83601 ∧ lineB ((G.take (i + 1)).map wordM) = S1 ++ xf ++ ⟨#[opC xo]⟩ ++ ⟨(writeL xt.data.toList).toArray⟩ := by
          refine ⟨_, rfl, ?_, ?_⟩
          · split
            · exact Nat.zero_le _
            · rw [ByteArray.size_append]; show _ + 1 ≤ _; omega
          · rw [htk]
            split
            · rename_i h; subst h; exact lineM_first _
            · rename_i h
              refine lineM_next (fun e => h ?_) _
              have := congrArg List.length e
              rw [List.length_map, List.length_take, List.length_nil] at this
              omega
        have HKC := hid hkc
        have HS1 := hid hS1
        have HNX := hid hkey
        have HZ : Hid (i = 0 → lineB ((G.take i).map wordM) = ⟨#[]⟩) := fun e => by rw [e]; rfl
        clear hat hn hr hs hx htk has hkey hS1 hkc hns
        obtain ⟨S, hS⟩ : ∃ S, lineB ((G.take i).map wordM) = S := ⟨_, rfl⟩
        rw [hS] at hls HS1 HZ ⊢
        clear hS
        go_upto_if 23 with fail
        go_cut [6] from 16 to 48 (fun vs wx => wr = wx ∧ vs = .string S1)
        case first =>
          by_cases h0 : i = 0
          · have E1 : Hid (S = S1) := by show _ = _; rw [HS1.out, if_pos h0, HZ.out h0]
            have hz : ¬ ((0 : Int) < (i : Int)) := by omega
            clear h0
            go_wp2_with fail
            go_meet
            case rel => exact ⟨rfl, by rw [E1.out]⟩
          · have e1 : S1 = S ++ ⟨#[32]⟩ := by rw [HS1.out, if_neg h0]
            have hz : (0 : Int) < (i : Int) := by omega
            have hA : ∀ w, Sem.run Tryz.prog (Op.stringOp .add S ⟨#[32]⟩) w = .ok (.string S1) w := fun w => by rw [e1]; exact run_string_add_sum _ _ _ (by show S.size + 1 ≤ _; omega)
            clear e1 h0
            go_wp2_with fail
            go_meet
            case rel => exact ⟨rfl, rfl⟩
        case rest =>
          obtain ⟨rfl, rfl⟩ := hcut
          have hwl2 := writeL_len xt.data.toList
          have hwl3 : xt.data.toList.length = xt.size := by simp
          have HW := hid (fun W => rwrite_any xt W (by omega))
          obtain ⟨wt, hwt⟩ : ∃ wt : ByteArray, ⟨(writeL xt.data.toList).toArray⟩ = wt := ⟨_, rfl⟩
          have hwts : wt.size ≤ 384 := by rw [← hwt]; show (writeL xt.data.toList).toArray.size ≤ 384; rw [List.size_toArray]; omega
          rw [hwt] at HW HNX
          obtain ⟨S2, hS2⟩ : ∃ S2 : ByteArray, S1 ++ xf = S2 := ⟨_, rfl⟩
          have hS2s : S2.size ≤ 83633 := by rw [← hS2, ByteArray.size_append]; omega
          obtain ⟨S3, hS3⟩ : ∃ S3 : ByteArray, S2 ++ ⟨#[opC xo]⟩ = S3 := ⟨_, rfl⟩
          have hS3s : S3.size ≤ 83634 := by rw [← hS3, ByteArray.size_append]; show _ + 1 ≤ _; omega
          obtain ⟨S4, hS4⟩ : ∃ S4 : ByteArray, S3 ++ wt = S4 := ⟨_, rfl⟩
          rw [hS2, hS3, hS4] at HNX
          have hA : ∀ w, Sem.run Tryz.prog (Op.stringOp .add S1 xf) w = .ok (.string S2) w := fun w => by rw [← hS2]; exact run_string_add_sum _ _ _ (by omega)
          have hB : ∀ w, Sem.run Tryz.prog (Op.stringOp .add S2 ⟨#[opC xo]⟩) w = .ok (.string S3) w := fun w => by rw [← hS3]; exact run_string_add_sum _ _ _ (by show S2.size + 1 ≤ _; omega)
          have hC : ∀ w, Sem.run Tryz.prog (Op.stringOp .add S3 wt) w = .ok (.string S4) w := fun w => by rw [← hS4]; exact run_string_add_sum _ _ _ (by omega)
          clear hwl2 hwl3 hwt hS2 hS3 hS4 hwts hS2s hS3s hS1s hls hss hns2
          obtain ⟨m, hm7, hxo⟩ : ∃ m : Nat, m < 7 ∧ xo = m + 1 := ⟨(xo - 1).toNat, by omega, by omega⟩
          have hw : IntKind.i64.wrap (xo - 1) = (m : Int) := by rw [hxo]; rw [show (m : Int) + 1 - 1 = m by omega]; exact wrap_i64 _ (by omega) (by omega)
          have hm0 : (0 : Int) ≤ m := by omega
          have hm7z : (m : Int) < 7 := by omega
          have hsg := sign_at m hm7
          rw [← hxo] at hsg
          have hB2 : ∀ w, Sem.run Tryz.prog (Op.stringOp .add S2 (Utf8.encode (((⟨#[61, 33, 94, 60, 62, 63, 45]⟩ : ByteArray)[m]'hm7).toNat : Int))) w = .ok (.string S3) w := by rw [hsg]; exact hB
          clear hor hxo hsg hB
          obtain ⟨c0, c1, c2⟩ := HKC.out _ HB.out
          go_wp2_with fail
          go_region_held3 (fun W => Below w1.heap.size w1 W ∧ W.cell? ⟨b, off + i * 3, none⟩ = some (.string xf) ∧ W.cell? ⟨b, off + i * 3 + 1, none⟩ = some (.int .i64 xo) ∧ W.cell? ⟨b, off + i * 3 + 2, none⟩ = some (.string xt))
            (first | exact ⟨HB.out.drew, HKC.out _ HB.out.drew⟩ | exact ⟨bw2, HKC.out _ bw2⟩)
            (first | (go_at_call 43; refine (HW.out _).mono ?_; rintro o w2 ⟨rfl, hb2⟩; have bw2 : Below w1.heap.size w1 w2 := bel_then HB.out.drew HB.out.drew.size hb2))
          all_goals
            go_wp2_with fail
            go_roundg (G.length - (i + 1))
            case measure => omega
            case rel => exact ⟨i + 1, by go_num, by omega, by omega, bw2, by rw [HNX.out]⟩
      · have hltz : ¬ (i : Int) < (G.length : Int) := by omega
        have htk2 : G.take i = G := List.take_of_length_le (by omega)
        rw [htk2]
        clear htk2
        go_wp2_with fail
        go_ret2
        exact ⟨by rw [HM.out, HG.out]; rfl, bel_then HB1.out HB1.out.size HB.out⟩
  · have hne : (mayM p != 0) = true := by rw [bne_iff_ne]; exact hm
    have HA : Hid (ansM p = []) := by show _ = _; unfold ansM; rw [if_neg hm]
    obtain ⟨r, hr⟩ : ∃ r, mayM p = r := ⟨_, rfl⟩
    rw [hr] at hne
    have HR := hid hr
    clear hm hr
    go_enter Tryz.func21, Tryz.ntmps21
    go_wp2_with (first | (go_at_call 11; refine HN.out.mono ?_; rintro e w1 ⟨⟨u, he, ho⟩, hb1⟩; rw [HR.out] at he; subst he; clear ho))
    go_ret2
    exact ⟨by rw [HR.out, HA.out]; rfl, hb1⟩

end Go.Proofs.YtfcjnoojcajljaaGreatDoor

/-
  What joins of fields in order are: each name once, in order, with all its texts.
-/
namespace Go.Proofs.YtfcjnoojcajljaaGreatDoor
open Go.RowKit Go.Sort Go.Lib

/-- All texts of a name, one after the other. -/
def txtOf (fs : List Fld) (c : ByteArray) : List ByteArray := (fs.filter fun x => decide (x.1 = c)).flatMap (·.2)

def Rising (l : List Fld) : Prop := l.Pairwise fun x y => ltB x.1 y.1 = true

theorem txtOf_snoc (l : List Fld) (f : Fld) (c : ByteArray) : txtOf (l ++ [f]) c = txtOf l c ++ if f.1 = c then f.2 else [] := by
  unfold txtOf
  rw [List.filter_append, List.flatMap_append]
  by_cases e : f.1 = c
  · rw [if_pos e, List.filter_cons_of_pos (by simp [e])]; simp
  · rw [if_neg e, List.filter_cons_of_neg (by simp [e])]; simp

theorem txtOf_none {l : List Fld} {c : ByteArray} (h : ∀ f ∈ l, f.1 ≠ c) : txtOf l c = [] := by
  unfold txtOf
  rw [List.filter_eq_nil_iff.2 (fun x hx => by simpa using h x hx)]
  rfl

structure Groups (l o : List Fld) : Prop where
  rising : Rising o
  names : ∀ c, (∃ f ∈ o, f.1 = c) ↔ ∃ f ∈ l, f.1 = c
  texts : ∀ f ∈ o, f.2 = txtOf l f.1

theorem ltB_ne {a b : ByteArray} (h : ltB a b = true) : a ≠ b := by
  rintro rfl
  rw [ltB_irrefl] at h
  cases h

theorem ltB_lt_le {a b c : ByteArray} (h : ltB a b = true) (k : ltB c b = false) : ltB a c = true := by
  rcases ltB_cases b c with h1 | rfl | h1
  · exact ltB_trans h h1
  · exact h
  · rw [k] at h1; cases h1

theorem Groups.step {l o : List Fld} {f : Fld} (h : Groups l o) (hf : ∀ x ∈ l, ltB f.1 x.1 = false) : Groups (l ++ [f]) (joinStep o f) := by
  obtain ⟨h1, h2, h3⟩ := h
  have hfo : ∀ x ∈ o, ltB f.1 x.1 = false := fun x hx => by
    obtain ⟨y, hy, e⟩ := (h2 x.1).1 ⟨x, hx, rfl⟩
    rw [← e]; exact hf y hy
  rcases List.eq_nil_or_concat o with rfl | ⟨o', g, rfl⟩
  · have hl : l = [] := by
      cases l with
      | nil => rfl
      | cons y l =>
        obtain ⟨z, hz, _⟩ := (h2 y.1).2 ⟨y, by simp, rfl⟩
        simp at hz
    subst hl
    rw [joinStep_nil]
    refine ⟨List.pairwise_singleton _ _, fun c => by simp, fun x hx => ?_⟩
    rw [List.mem_singleton] at hx
    subst hx
    simp [txtOf]
  · rw [List.concat_eq_append] at *
    have hr := List.pairwise_append.1 h1
    have ho' : ∀ x ∈ o', ltB x.1 g.1 = true := fun x hx => hr.2.2 x hx g (by simp)
    have hgf := hfo g (by simp)
    by_cases e : g.1 = f.1
    · rw [joinStep_same _ _ _ e]
      refine ⟨?_, fun c => ?_, fun x hx => ?_⟩
      · refine List.pairwise_append.2 ⟨hr.1, List.pairwise_singleton _ _, fun a ha b hb => ?_⟩
        rw [List.mem_singleton] at hb
        subst hb
        exact ho' a ha
      · have := h2 c
        constructor
        · rintro ⟨x, hx, rfl⟩
          rw [List.mem_append, List.mem_singleton] at hx
          rcases hx with hx | rfl
          · obtain ⟨y, hy, ey⟩ := (h2 x.1).1 ⟨x, by simp [hx], rfl⟩
            exact ⟨y, by simp [hy], ey⟩
          · exact ⟨f, by simp, e.symm⟩
        · rintro ⟨y, hy, rfl⟩
          rw [List.mem_append, List.mem_singleton] at hy
          rcases hy with hy | rfl
          · obtain ⟨x, hx, ex⟩ := this.2 ⟨y, hy, rfl⟩
            rw [List.mem_append, List.mem_singleton] at hx
            rcases hx with hx | rfl
            · exact ⟨x, by simp [hx], ex⟩
            · exact ⟨_, List.mem_append_right _ (List.mem_singleton.2 rfl), ex⟩
          · exact ⟨_, List.mem_append_right _ (List.mem_singleton.2 rfl), e⟩
      · rw [List.mem_append, List.mem_singleton] at hx
        rcases hx with hx | rfl
        · rw [txtOf_snoc, if_neg (fun k => ltB_ne (ho' x hx) (k.symm.trans e.symm)), List.append_nil]
          exact h3 x (by simp [hx])
        · show g.2 ++ f.2 = txtOf (l ++ [f]) g.1
          rw [txtOf_snoc, if_pos e.symm, ← h3 g (by simp)]
    · rw [joinStep_other _ _ _ e]
      have hgf' : ltB g.1 f.1 = true := by
        rcases ltB_cases g.1 f.1 with k | k | k
        · exact k
        · exact absurd k e
        · rw [hgf] at k; cases k
      have hlt : ∀ x ∈ o' ++ [g], ltB x.1 f.1 = true := fun x hx => by
        rw [List.mem_append, List.mem_singleton] at hx
        rcases hx with hx | rfl
        · exact ltB_trans (ho' x hx) hgf'
        · exact hgf'
      refine ⟨?_, fun c => ?_, fun x hx => ?_⟩
      · refine List.pairwise_append.2 ⟨h1, List.pairwise_singleton _ _, fun a ha b hb => ?_⟩
        rw [List.mem_singleton] at hb
        subst hb
        exact hlt a ha
      · constructor
        · rintro ⟨x, hx, rfl⟩
          rw [List.mem_append, List.mem_singleton] at hx
          rcases hx with hx | rfl
          · obtain ⟨y, hy, ey⟩ := (h2 x.1).1 ⟨x, hx, rfl⟩
            exact ⟨y, List.mem_append_left _ hy, ey⟩
          · exact ⟨x, by simp, rfl⟩
        · rintro ⟨y, hy, rfl⟩
          rw [List.mem_append, List.mem_singleton] at hy
          rcases hy with hy | rfl
          · obtain ⟨x, hx, ex⟩ := (h2 y.1).2 ⟨y, hy, rfl⟩
            exact ⟨x, List.mem_append_left _ hx, ex⟩
          · exact ⟨y, by simp, rfl⟩
      · rw [List.mem_append, List.mem_singleton] at hx
        rcases hx with hx | rfl
        · rw [txtOf_snoc, if_neg (fun k => ltB_ne (hlt x hx) k.symm), List.append_nil]
          exact h3 x hx
        · rw [txtOf_snoc, if_pos rfl, txtOf_none, List.nil_append]
          intro y hy k
          obtain ⟨z, hz, ez⟩ := (h2 y.1).2 ⟨y, hy, rfl⟩
          exact ltB_ne (hlt z hz) (ez.trans k)

theorem joinS_groups (l : List Fld) (h : InOrder l) : Groups l (joinS l) := by
  have : ∀ k, k ≤ l.length → Groups (l.take k) (joinS (l.take k)) := by
    intro k
    induction k with
    | zero => intro _; exact ⟨List.Pairwise.nil, fun c => by simp [joinS], fun f hf => by simp [joinS] at hf⟩
    | succ k ih =>
      intro hk
      rw [List.take_succ_eq_append_getElem hk, joinS_snoc]
      refine (ih (by omega)).step fun x hx => ?_
      have h1 : InOrder (l.take (k + 1)) := h.sublist (List.take_sublist _ _)
      rw [List.take_succ_eq_append_getElem hk] at h1
      exact (List.pairwise_append.1 h1).2.2 x hx _ (by simp)
  have := this l.length (Nat.le_refl _)
  rwa [List.take_length] at this

theorem normF_groups (fs : List Fld) : Groups fs (normF fs) := by
  obtain ⟨h1, h2⟩ := sortS_spec fs
  obtain ⟨g1, g2, g3⟩ := joinS_groups _ h1
  have hm : ∀ c, (∃ f ∈ sortS fs, f.1 = c) ↔ ∃ f ∈ fs, f.1 = c := fun c => by
    have e := h2 c
    constructor
    · rintro ⟨f, hf, rfl⟩
      have : f ∈ fs.filter (fun x => decide (x.1 = f.1)) := by rw [← e]; exact List.mem_filter.2 ⟨hf, by simp⟩
      exact ⟨f, (List.mem_filter.1 this).1, rfl⟩
    · rintro ⟨f, hf, rfl⟩
      have : f ∈ (sortS fs).filter (fun x => decide (x.1 = f.1)) := by rw [e]; exact List.mem_filter.2 ⟨hf, by simp⟩
      exact ⟨f, (List.mem_filter.1 this).1, rfl⟩
  refine ⟨g1, fun c => (g2 c).trans (hm c), fun f hf => ?_⟩
  rw [g3 f hf]
  unfold txtOf
  rw [h2]

/-- Groups are one. -/
theorem groups_unique {l o p : List Fld} (h : Groups l o) (k : Groups l p) : o = p := by
  refine order_unique o p (h.rising.imp fun hxy => ltB_asymm hxy) (k.rising.imp fun hxy => ltB_asymm hxy) fun c => ?_
  have one : ∀ {q : List Fld}, Groups l q → q.filter (fun x => decide (x.1 = c)) = if ∃ f ∈ l, f.1 = c then [(c, txtOf l c)] else [] := by
    intro q hq
    split
    · rename_i hex
      obtain ⟨f, hf, rfl⟩ := (hq.names c).2 hex
      obtain ⟨a, b, rfl⟩ := List.append_of_mem hf
      have hr := List.pairwise_append.1 hq.rising
      have hr2 := List.pairwise_cons.1 hr.2.1
      have ha : a.filter (fun x => decide (x.1 = f.1)) = [] := List.filter_eq_nil_iff.2 fun x hx e => ltB_ne (hr.2.2 x hx f (by simp)) (by simpa using e)
      have hb : b.filter (fun x => decide (x.1 = f.1)) = [] := List.filter_eq_nil_iff.2 fun x hx e => ltB_ne (hr2.1 x hx) (Eq.symm (of_decide_eq_true e))
      rw [List.filter_append, ha, List.filter_cons_of_pos (by simp), hb, List.nil_append, ← hq.texts f (by simp)]
    · rename_i hex
      refine List.filter_eq_nil_iff.2 fun x hx e => hex ((hq.names c).1 ⟨x, hx, by simpa using e⟩)
  rw [one h, one k]

/-- The least name above the last one, of these; none: the empty one. -/
def scanStep (last nx : ByteArray) (f : Fld) : ByteArray := if ltB last f.1 && (decide (nx.size = 0) || ltB f.1 nx) then f.1 else nx
def scanN (last : ByteArray) (fs : List Fld) : ByteArray := fs.foldl (scanStep last) ⟨#[]⟩

theorem scanN_snoc (last : ByteArray) (l : List Fld) (f : Fld) : scanN last (l ++ [f]) = scanStep last (scanN last l) f := by simp [scanN]

theorem scan_spec (last : ByteArray) (fs : List Fld) (hne : ∀ f ∈ fs, f.1.size ≠ 0) :
    (scanN last fs = ⟨#[]⟩ ∧ ∀ f ∈ fs, ltB last f.1 = false) ∨ ((scanN last fs).size ≠ 0 ∧ (∃ f ∈ fs, f.1 = scanN last fs) ∧ ltB last (scanN last fs) = true ∧ ∀ g ∈ fs, ltB last g.1 = true → ltB g.1 (scanN last fs) = false) := by
  have : ∀ k, k ≤ fs.length → (scanN last (fs.take k) = ⟨#[]⟩ ∧ ∀ f ∈ fs.take k, ltB last f.1 = false) ∨ ((scanN last (fs.take k)).size ≠ 0 ∧ (∃ f ∈ fs.take k, f.1 = scanN last (fs.take k)) ∧ ltB last (scanN last (fs.take k)) = true ∧ ∀ g ∈ fs.take k, ltB last g.1 = true → ltB g.1 (scanN last (fs.take k)) = false) := by
    intro k
    induction k with
    | zero => intro _; left; exact ⟨rfl, fun f hf => by simp at hf⟩
    | succ k ih =>
      intro hk
      have ih := ih (by omega)
      rw [List.take_succ_eq_append_getElem hk, scanN_snoc]
      have hnf : (fs[k]).1.size ≠ 0 := hne _ (List.getElem_mem hk)
      generalize fs[k] = f at hnf ⊢
      generalize fs.take k = l at ih ⊢
      generalize scanN last l = r at ih ⊢
      unfold scanStep
      cases c1 : ltB last f.1 with
      | false =>
        rw [Bool.false_and, if_neg (by simp)]
        rcases ih with ⟨i1, i2⟩ | ⟨i1, ⟨x, hx, ex⟩, i3, i4⟩
        · left
          refine ⟨i1, fun x hx => ?_⟩
          rw [List.mem_append, List.mem_singleton] at hx
          rcases hx with hx | rfl
          · exact i2 x hx
          · exact c1
        · right
          refine ⟨i1, ⟨x, by simp [hx], ex⟩, i3, fun g hg hl => ?_⟩
          rw [List.mem_append, List.mem_singleton] at hg
          rcases hg with hg | rfl
          · exact i4 g hg hl
          · rw [c1] at hl; cases hl
      | true =>
        rcases ih with ⟨i1, i2⟩ | ⟨i1, ⟨x, hx, ex⟩, i3, i4⟩
        · have : decide (r.size = 0) = true := by rw [i1]; rfl
          rw [this, if_pos (by simp)]
          right
          refine ⟨hnf, ⟨f, by simp, rfl⟩, c1, fun g hg hl => ?_⟩
          rw [List.mem_append, List.mem_singleton] at hg
          rcases hg with hg | rfl
          · rw [i2 g hg] at hl; cases hl
          · exact ltB_irrefl _
        · rw [decide_eq_false i1, Bool.false_or, Bool.true_and]
          right
          cases c2 : ltB f.1 r with
          | true =>
            rw [if_pos rfl]
            refine ⟨hnf, ⟨f, by simp, rfl⟩, c1, fun g hg hl => ?_⟩
            rw [List.mem_append, List.mem_singleton] at hg
            rcases hg with hg | rfl
            · have := i4 g hg hl
              cases c3 : ltB g.1 f.1 with
              | false => rfl
              | true => rw [ltB_trans c3 c2] at this; cases this
            · exact ltB_irrefl _
          | false =>
            rw [if_neg (by simp)]
            refine ⟨i1, ⟨x, by simp [hx], ex⟩, i3, fun g hg hl => ?_⟩
            rw [List.mem_append, List.mem_singleton] at hg
            rcases hg with hg | rfl
            · exact i4 g hg hl
            · exact c2
  have h := this fs.length (Nat.le_refl _)
  rwa [List.take_length] at h

theorem ltB_nil {c : ByteArray} (h : c.size ≠ 0) : ltB ⟨#[]⟩ c = true := by
  rcases ltB_cases ⟨#[]⟩ c with k | k | k
  · exact k
  · rw [← k] at h; exact absurd rfl h
  · unfold ltB at k
    rw [decide_eq_true_iff] at k
    exfalso
    have e : (ByteArray.mk #[]).data.toList = [] := rfl
    rw [e] at k
    cases hc : c.data.toList with
    | nil => rw [hc] at k; simp [Lib.compareBytes] at k
    | cons x l => rw [hc] at k; simp [Lib.compareBytes] at k

/-- The name of the group behind the first k of them. -/
def lastOf (o : List Fld) (k : Nat) : ByteArray := if k = 0 then ⟨#[]⟩ else (o.getD (k - 1) default).1

theorem Rising.get {o : List Fld} (h : Rising o) {i j : Nat} (hij : i < j) (hj : j < o.length) : ltB (o[i]'(by omega)).1 (o[j]).1 = true := by
  exact List.pairwise_iff_getElem.1 h i j (by omega) hj hij

theorem scan_next {fs o : List Fld} (h : Groups fs o) (hne : ∀ f ∈ fs, f.1.size ≠ 0) (k : Nat) (hk : k ≤ o.length) : scanN (lastOf o k) fs = if hlt : k < o.length then (o[k]).1 else ⟨#[]⟩ := by
  have hno : ∀ f ∈ o, f.1.size ≠ 0 := fun f hf => by
    obtain ⟨g, hg, e⟩ := (h.names f.1).1 ⟨f, hf, rfl⟩
    rw [← e]; exact hne g hg
  have hge : ∀ j, (hj : j < o.length) → k ≤ j → ltB (lastOf o k) (o[j]).1 = true := fun j hj hkj => by
    unfold lastOf
    split
    · exact ltB_nil (hno _ (List.getElem_mem hj))
    · rw [List.getD_eq_getElem?_getD, List.getElem?_eq_getElem (show k - 1 < o.length by omega)]
      exact h.rising.get (by omega) hj
  have hlt : ∀ j, (hj : j < o.length) → j < k → ltB (lastOf o k) (o[j]).1 = false := fun j hj hkj => by
    unfold lastOf
    rw [if_neg (by omega), List.getD_eq_getElem?_getD, List.getElem?_eq_getElem (show k - 1 < o.length by omega)]
    show ltB (o[k - 1]).1 (o[j]).1 = false
    by_cases e : j = k - 1
    · subst e; exact ltB_irrefl _
    · exact ltB_asymm (h.rising.get (show j < k - 1 by omega) (by omega))
  rcases scan_spec (lastOf o k) fs hne with ⟨s1, s2⟩ | ⟨s1, ⟨x, hx, ex⟩, s3, s4⟩
  · rw [s1, dif_neg]
    intro hk'
    obtain ⟨y, hy, ey⟩ := (h.names (o[k]).1).1 ⟨_, List.getElem_mem hk', rfl⟩
    have h1 := s2 y hy
    rw [ey, hge k hk' (Nat.le_refl _)] at h1
    cases h1
  · obtain ⟨z, hz, ez⟩ := (h.names x.1).2 ⟨x, hx, rfl⟩
    obtain ⟨j, hj, rfl⟩ := List.mem_iff_getElem.1 hz
    have hjk : k ≤ j := by
      refine Nat.le_of_not_lt fun hjk => ?_
      have h1 := hlt j hj hjk
      rw [ez, ex, s3] at h1
      cases h1
    have hk' : k < o.length := by omega
    rw [dif_pos hk', ← ex, ← ez]
    have h2 : ¬ k < j := fun hkj => by
      obtain ⟨y, hy, ey⟩ := (h.names (o[k]).1).1 ⟨_, List.getElem_mem hk', rfl⟩
      have h1 := s4 y hy (by rw [ey]; exact hge k hk' (Nat.le_refl _))
      rw [ey, ← ex, ← ez, h.rising.get hkj hj] at h1
      cases h1
    obtain rfl : k = j := by omega
    rfl

theorem scan_size {fs o : List Fld} (h : Groups fs o) (hne : ∀ f ∈ fs, f.1.size ≠ 0) {k : Nat} (hk : k < o.length) : (o[k]).1.size ≠ 0 := by
  obtain ⟨g, hg, e⟩ := (h.names (o[k]).1).1 ⟨_, List.getElem_mem hk, rfl⟩
  rw [← e]; exact hne g hg

/-- A group's texts, nine of them at most. -/
def capF (f : Fld) : Fld := (f.1, f.2.take 9)

theorem cap_getD (o : List Fld) (i : Nat) : ((o.map capF).getD i default).1 = (o.getD i default).1 := by
  rw [List.getD_eq_getElem?_getD, List.getD_eq_getElem?_getD, List.getElem?_map]
  cases o[i]? with
  | none => rfl
  | some _ => rfl

theorem cap_id {f : Fld} (h : f.2.length ≤ 8) : capF f = f := by
  unfold capF
  rw [List.take_of_length_le (by omega)]

theorem cap_map {o : List Fld} (h : ∀ f ∈ o, f.2.length ≤ 8) : o.map capF = o := by
  induction o with
  | nil => rfl
  | cons f o ih => rw [List.map_cons, cap_id (h f (by simp)), ih (fun g hg => h g (by simp [hg]))]

theorem cap_may (o : List Fld) : mayB (o.map capF) = mayB o := by
  by_cases hs : ∀ f ∈ o, f.2.length ≤ 8
  · rw [cap_map hs]
  · have hno : ∃ f ∈ o, ¬ f.2.length ≤ 8 := by
      refine Classical.byContradiction fun hc => hs fun f hf => Classical.byContradiction fun hl => hc ⟨f, hf, hl⟩
    obtain ⟨f, hf, hl⟩ := hno
    have e1 : mayB o = false := by
      cases hm : mayB o with
      | false => rfl
      | true => have := (fits_parts (may_fits hm f hf)).2.2.1; omega
    have e2 : mayB (o.map capF) = false := by
      cases hm : mayB (o.map capF) with
      | false => rfl
      | true =>
        have := (fits_parts (may_fits hm (capF f) (List.mem_map.2 ⟨f, hf, rfl⟩))).2.2.1
        simp only [capF, List.length_take] at this
        omega
    rw [e1, e2]

/-- What the reference asks at its end. -/
theorem cap_end (o : List Fld) : (decide (16 < o.length) || !mayB ((o.take 17).map capF)) = !mayB o := by
  by_cases h : 16 < o.length
  · rw [decide_eq_true h, may_long h]; rfl
  · rw [decide_eq_false h, Bool.false_or, List.take_of_length_le (by omega), cap_may]

theorem cap_same {o : List Fld} (h : mayB o = true) : (o.take 17).map capF = o := by
  have := (may_parts h).1
  rw [List.take_of_length_le (by omega), cap_map fun f hf => (fits_parts (may_fits h f hf)).2.2.1]

end Go.Proofs.YtfcjnoojcajljaaGreatDoor

/-
  The contract of the reference's Norm.
-/
namespace Go.Proofs.YtfcjnoojcajljaaGreatDoor
open Go.RowKit Go.Lib

def RnSt (w : World) (G : List Fld) (k : Nat) (v : Value) (wr : World) : Prop :=
  ∃ dr, OwnXs w.heap.size wr v dr ∧ dr.map Fx.fld = (G.take (min k 17)).map capF ∧ Below w.heap.size w wr

def RnAns (N : Nat) (fs : List Fld) (e : Ending) (w' : World) : Prop :=
  (fs.any misB = true ∧ e = .returned (.tuple #[.slice none 0 0, .int .i64 2])) ∨
    (fs.any misB = false ∧
     (((normF fs).any bareB = true ∧ e = .returned (.tuple #[.slice none 0 0, .int .i64 3])) ∨
      ((normF fs).any bareB = false ∧ mayB (normF fs) = false ∧ e = .returned (.tuple #[.slice none 0 0, .int .i64 5])) ∨
      ((normF fs).any bareB = false ∧ mayB (normF fs) = true ∧ ∃ u o, e = .returned (.tuple #[u, .int .i64 0]) ∧ OwnXs N w' u o ∧ o.map Fx.fld = normF fs)))
def RnPost (w : World) (fs : List Fld) (e : Ending) (w' : World) : Prop := RnAns w.heap.size fs e w' ∧ Below w.heap.size w w'

theorem mem_txtOf {fs : List Fld} {c t : ByteArray} (h : t ∈ txtOf fs c) : ∃ f ∈ fs, t ∈ f.2 := by
  unfold txtOf at h
  obtain ⟨f, hf, ht⟩ := List.mem_flatMap.1 h
  exact ⟨f, (List.mem_filter.1 hf).1, ht⟩

theorem txtOf_len (fs : List Fld) (c : ByteArray) : (txtOf fs c).length ≤ totF fs := by
  unfold txtOf totF
  induction fs with
  | nil => simp
  | cons f fs ih =>
    rw [List.map_cons, List.sum_cons]
    by_cases e : f.1 = c
    · rw [List.filter_cons_of_pos (by simp [e]), List.flatMap_cons, List.length_append]; omega
    · rw [List.filter_cons_of_neg (by simp [e])]; omega

theorem totF_take (fs : List Fld) (i : Nat) : totF (fs.take i) ≤ totF fs := by
  conv => rhs; rw [← List.take_append_drop i fs, totF_append]
  omega

theorem txtOf_step {d : List Fx} {i : Nat} (h : i < d.length) (c : ByteArray) : txtOf ((d.map Fx.fld).take (i + 1)) c = txtOf ((d.map Fx.fld).take i) c ++ if (d[i]).name = c then (d[i]).txt else [] := by
  rw [List.take_succ_eq_append_getElem (by simpa using h), txtOf_snoc]
  simp [Fx.fld]

theorem scanN_step {d : List Fx} {i : Nat} (h : i < d.length) (last : ByteArray) : scanN last ((d.map Fx.fld).take (i + 1)) =
    if ltB last (d[i]).name && (decide ((scanN last ((d.map Fx.fld).take i)).size = 0) || ltB (d[i]).name (scanN last ((d.map Fx.fld).take i))) then (d[i]).name else scanN last ((d.map Fx.fld).take i) := by
  rw [List.take_succ_eq_append_getElem (by simpa using h), scanN_snoc]
  simp [scanStep, Fx.fld]

theorem mis_all {d : List Fx} (h : ∀ j, (h : j < d.length) → fieldB (d[j]).name.data.toList = true) : (d.map Fx.fld).any misB = false := by
  rw [List.any_eq_false]
  intro f hf
  obtain ⟨x, hx, rfl⟩ := List.mem_map.1 hf
  obtain ⟨j, hj, rfl⟩ := List.mem_iff_getElem.1 hx
  have := h j hj
  simp [misB, Fx.fld, this]

theorem field_ne {l : ByteArray} (h : fieldB l.data.toList = true) : l.size ≠ 0 := by
  intro e
  have : l.data.toList = [] := List.length_eq_zero_iff.1 (by simpa using e)
  rw [this] at h
  revert h
  decide

theorem take9_more {T a b : List ByteArray} (h : 9 ≤ (T ++ a).length) : (T ++ (a ++ b)).take 9 = (T ++ a).take 9 := by
  rw [← List.append_assoc, List.take_append_of_le_length h]

theorem any_snoc {G : List Fld} {k : Nat} (h : k < G.length) : (G.take (k + 1)).any bareB = ((G.take k).any bareB || bareB G[k]) := by
  rw [List.take_succ_eq_append_getElem h, List.any_append]
  simp

theorem cap_snoc {G : List Fld} {k : Nat} (h : k < G.length) (hk : k < 17) : (G.take (min (k + 1) 17)).map capF = (G.take (min k 17)).map capF ++ [capF G[k]] := by
  rw [Nat.min_eq_left (by omega), Nat.min_eq_left (by omega), List.take_succ_eq_append_getElem h, List.map_append]
  rfl

theorem lastOf_succ {G : List Fld} {k : Nat} (h : k < G.length) : lastOf G (k + 1) = (G[k]).1 := by
  unfold lastOf
  rw [if_neg (by omega), Nat.add_sub_cancel, List.getD_eq_getElem?_getD, List.getElem?_eq_getElem h]
  rfl

/-- What the reference holds at its end is small. -/
theorem rn_fit {d dr : List Fx} {k : Nat} (hf : FitX d) (h : dr.map Fx.fld = ((normF (d.map Fx.fld)).take (min k 17)).map capF) : FitX dr := by
  have hg := normF_groups (d.map Fx.fld)
  have hl : dr.length ≤ 17 := by
    have := congrArg List.length h
    rw [List.length_map, List.length_map, List.length_take] at this
    omega
  refine ⟨by unfold maxLen; omega, fun x hx => ?_⟩
  have hm : x.fld ∈ ((normF (d.map Fx.fld)).take (min k 17)).map capF := by rw [← h]; exact List.mem_map.2 ⟨x, hx, rfl⟩
  obtain ⟨g, hgm, e⟩ := List.mem_map.1 hm
  have hgm := List.mem_of_mem_take hgm
  have e1 : x.name = g.1 := (congrArg Prod.fst e).symm
  have e2 : x.txt = g.2.take 9 := (congrArg Prod.snd e).symm
  obtain ⟨f, hfm, ef⟩ := (hg.names g.1).1 ⟨g, hgm, rfl⟩
  obtain ⟨y, hy, rfl⟩ := List.mem_map.1 hfm
  refine ⟨?_, ?_, fun t ht => ?_⟩
  · show x.name.size ≤ maxLen
    rw [e1, ← ef]; exact (hf.2 y hy).1
  · show x.txt.length ≤ maxLen
    rw [e2, List.length_take]; unfold maxLen; omega
  · have ht : t ∈ x.txt := ht
    rw [e2] at ht
    have ht := List.mem_of_mem_take ht
    rw [hg.texts g hgm] at ht
    obtain ⟨f', hf', ht'⟩ := mem_txtOf ht
    obtain ⟨z, hz, rfl⟩ := List.mem_map.1 hf'
    exact (hf.2 z hz).2.2 t ht'

end Go.Proofs.YtfcjnoojcajljaaGreatDoor

/-
  The contract of the reference's Norm: the walk.
-/
namespace Go.Proofs.YtfcjnoojcajljaaGreatDoor
open Go.RowKit Go.Lib

theorem less_of {a b : ByteArray} {c : Bool} (h : ltB a b = c) : Op.bytesLess a.toList b.toList = c := by
  rw [← h, ← ltN_eq]; rfl

theorem eq_false {a b : ByteArray} (h : a ≠ b) : (a.toList == b.toList) = false := by
  rw [Lib.toList_data, Lib.toList_data, beq_eq_false_iff_ne]
  exact fun e => h (ba_eq e)
theorem eq_true {a b : ByteArray} (h : a = b) : (a.toList == b.toList) = true := by rw [h]; simp

theorem empty_of {a : ByteArray} (h : a.size = 0) : a.toList.isEmpty = true := by
  rw [Lib.toList_data]
  have : a.data.toList = [] := List.length_eq_zero_iff.1 (by simpa using h)
  rw [this]; rfl
theorem nonempty_of {a : ByteArray} (h : a.size ≠ 0) : a.toList.isEmpty = false := by
  rw [Lib.toList_data]
  cases e : a.data.toList with
  | nil => exact absurd (by simpa using congrArg List.length e) h
  | cons _ _ => rfl

end Go.Proofs.YtfcjnoojcajljaaGreatDoor

/-
  What Norm answers, by the fields alone: the program's and the reference's.
-/
namespace Go.Proofs.YtfcjnoojcajljaaGreatDoor
open Go.RowKit Go.Lib

/-- What Norm answers: the number, and the fields. -/
def codeF (fs : List Fld) : Int := if fs.any misB then 2 else if (normF fs).any bareB then 3 else if mayB (normF fs) then 0 else 5
def ansF (fs : List Fld) : List Fld := if codeF fs = 0 then normF fs else []

theorem codeF_zero {fs : List Fld} (h : codeF fs = 0) : fs.any misB = false ∧ (normF fs).any bareB = false ∧ mayB (normF fs) = true := by
  unfold codeF at h
  cases h1 : fs.any misB with
  | true => rw [h1] at h; simp at h
  | false =>
    cases h2 : (normF fs).any bareB with
    | true => rw [h1, h2] at h; simp at h
    | false =>
      cases h3 : mayB (normF fs) with
      | true => exact ⟨rfl, rfl, rfl⟩
      | false => rw [h1, h2, h3] at h; simp at h

theorem may_fit {d : List Fx} {fs : List Fld} (hmay : mayB fs = true) (hm : d.map Fx.fld = fs) : FitX d := by
  have hl := (may_parts hmay).1
  refine ⟨?_, fun x hx => ?_⟩
  · rw [← hm, List.length_map] at hl
    unfold maxLen; omega
  · have hx' : x.fld ∈ fs := by rw [← hm]; exact List.mem_map.2 ⟨x, hx, rfl⟩
    obtain ⟨h1, _, h3, h4, _⟩ := fits_parts (may_fits hmay _ hx')
    refine ⟨?_, ?_, fun t ht => ?_⟩
    · unfold maxLen; omega
    · unfold maxLen; omega
    · have := h4 t ht; unfold maxLen; omega

theorem ans_fit {d : List Fx} {fs : List Fld} (hm : d.map Fx.fld = ansF fs) : FitX d := by
  unfold ansF at hm
  split at hm
  · rename_i h
    exact may_fit (codeF_zero h).2.2 hm
  · rw [List.map_eq_nil_iff] at hm
    subst hm
    exact ⟨by unfold maxLen; simp, fun x hx => by simp at hx⟩

def NPost (w : World) (fs : List Fld) (e : Ending) (w' : World) : Prop :=
  (∃ u o, e = .returned (.tuple #[u, .int .i64 (codeF fs)]) ∧ OwnXs w.heap.size w' u o ∧ o.map Fx.fld = ansF fs) ∧ Below w.heap.size w w'

theorem own_none (N : Nat) (w : World) : OwnXs N w (.slice none 0 0) [] := ⟨World.ownsRow_nil _ _ _ _, fun x hx => by simp at hx⟩

theorem ansPlain {N : Nat} {fs : List Fld} {e : Ending} {w' : World}
    (h : (fs.any misB = true ∧ e = .returned (.tuple #[.slice none 0 0, .int .i64 2])) ∨
    (fs.any misB = false ∧
     (((normF fs).any bareB = true ∧ e = .returned (.tuple #[.slice none 0 0, .int .i64 3])) ∨
      ((normF fs).any bareB = false ∧ mayB (normF fs) = false ∧ e = .returned (.tuple #[.slice none 0 0, .int .i64 5])) ∨
      ((normF fs).any bareB = false ∧ mayB (normF fs) = true ∧ ∃ u o, e = .returned (.tuple #[u, .int .i64 0]) ∧ OwnXs N w' u o ∧ o.map Fx.fld = normF fs)))) :
    ∃ u o, e = .returned (.tuple #[u, .int .i64 (codeF fs)]) ∧ OwnXs N w' u o ∧ o.map Fx.fld = ansF fs := by
  rcases h with ⟨h1, rfl⟩ | ⟨h1, ⟨h2, rfl⟩ | ⟨h2, h3, rfl⟩ | ⟨h2, h3, u, o, rfl, ho, hm⟩⟩
  · have hc : codeF fs = 2 := by unfold codeF; rw [h1]; rfl
    exact ⟨_, [], by rw [hc], own_none _ _, by unfold ansF; rw [hc]; rfl⟩
  · have hc : codeF fs = 3 := by unfold codeF; rw [h1, h2]; rfl
    exact ⟨_, [], by rw [hc], own_none _ _, by unfold ansF; rw [hc]; rfl⟩
  · have hc : codeF fs = 5 := by unfold codeF; rw [h1, h2, h3]; rfl
    exact ⟨_, [], by rw [hc], own_none _ _, by unfold ansF; rw [hc]; rfl⟩
  · have hc : codeF fs = 0 := by unfold codeF; rw [h1, h2, h3]; rfl
    exact ⟨u, o, by rw [hc], ho, by unfold ansF; rw [hc]; exact hm⟩

end Go.Proofs.YtfcjnoojcajljaaGreatDoor

/-
  ValueNorms answers true, where the fields and their texts are few enough to be copied.
-/
namespace Go.Proofs.YtfcjnoojcajljaaGreatDoor
open Go.RowKit Go.Lib

theorem bool_same (b : Bool) : (b == b) = true := by cases b <;> rfl

end Go.Proofs.YtfcjnoojcajljaaGreatDoor

/-
  The contract of the reference's Read.
-/
namespace Go.Proofs.YtfcjnoojcajljaaGreatDoor
open Go.RowKit

theorem firstP_plain {c : UInt8} {r : List UInt8} (h : plainB (c.toNat : Int) = true) : firstP (c :: r) = some (c, 1) := by
  simp [firstP, h]
theorem firstP_sign {c : UInt8} {r : List UInt8} (h : plainB (c.toNat : Int) = false) (h2 : c ≠ 37) : firstP (c :: r) = none := by
  simp [firstP, h, h2]
theorem pct_plain : plainB 37 = false := by decide
theorem firstP_short {r : List UInt8} (h : r.length < 2) : firstP (37 :: r) = none := by
  match r, h with
  | [], _ => simp [firstP, pct_plain]
  | [_], _ => simp [firstP, pct_plain]
theorem firstP_hex {a b : UInt8} {r : List UInt8} : firstP (37 :: a :: b :: r) = if hexN a = 16 ∨ hexN b = 16 then none else if plainB ((UInt8.ofNat (16 * hexN a + hexN b)).toNat : Int) then none else some (UInt8.ofNat (16 * hexN a + hexN b), 3) := by
  have e : firstP (37 :: a :: b :: r) = if hexv a < 0 ∨ hexv b < 0 then none else
      if plainB ((UInt8.ofNat (16 * (hexv a).toNat + (hexv b).toNat)).toNat : Int) then none else some (UInt8.ofNat (16 * (hexv a).toNat + (hexv b).toNat), 3) := by
    simp [firstP, pct_plain]
  rw [e, hexN_eq a, hexN_eq b]
  by_cases ha : hexN a = 16
  · rw [if_pos (Or.inl (by rw [if_pos ha]; decide)), if_pos (Or.inl ha)]
  · by_cases hb : hexN b = 16
    · rw [if_pos (Or.inr (by rw [if_pos hb]; decide)), if_pos (Or.inr hb)]
    · rw [if_neg (show ¬ (hexN a = 16 ∨ hexN b = 16) by omega), if_neg (show ¬ ((if hexN a = 16 then (-1 : Int) else (hexN a : Int)) < 0 ∨ (if hexN b = 16 then (-1 : Int) else (hexN b : Int)) < 0) by rw [if_neg ha, if_neg hb]; omega), if_neg ha, if_neg hb, Int.toNat_natCast, Int.toNat_natCast]

theorem drop_at (s : ByteArray) (i : Nat) (h : i < s.size) : s.data.toList.drop i = s[i] :: s.data.toList.drop (i + 1) := by
  rw [List.drop_eq_getElem_cons (by simpa using h)]
  rfl

def RrSt (w : World) (s : ByteArray) (i : Nat) (vb : Value) (wr : World) : Prop :=
  ∃ acc, OwnB w.heap.size wr vb acc ∧ acc.length ≤ i ∧ readL s.data.toList = (readL (s.data.toList.drop i)).map (acc ++ ·) ∧ Below w.heap.size w wr

theorem rr_next {s : ByteArray} {i n : Nat} {c : UInt8} {acc : List UInt8} (h : readL s.data.toList = (readL (s.data.toList.drop i)).map (acc ++ ·)) (hf : firstP (s.data.toList.drop i) = some (c, n)) :
    readL s.data.toList = (readL (s.data.toList.drop (i + n))).map ((acc ++ [c]) ++ ·) := by
  rw [h, readL_some hf, List.drop_drop, Option.map_map]
  congr 1
  funext x
  simp

theorem rr_no {s : ByteArray} {i : Nat} {acc : List UInt8} (hi : i < s.size) (h : readL s.data.toList = (readL (s.data.toList.drop i)).map (acc ++ ·)) (hf : firstP (s.data.toList.drop i) = none) : readL s.data.toList = none := by
  rw [h, readL_none (by rw [drop_at s i hi]; simp) hf]
  rfl

set_option maxHeartbeats 4000000 in
set_option maxRecDepth 100000 in
theorem rread_any (s : ByteArray) (w : World) (hs : s.size ≤ 140737488355327) :
    Calls Tryz.prog 79 #[.string s] w fun e w' => e = .returned (readV (readL s.data.toList)) ∧ Below w.heap.size w w' := by
  obtain ⟨i0, hi0, hz0, hz1, hz2⟩ := info_parts Tryz.infoByte
  have HI := hid hi0
  clear hi0
  have mixed := Tryz.mixed
  obtain ⟨res, hres⟩ : ∃ res, readL s.data.toList = res := ⟨_, rfl⟩
  rw [hres]
  have HRES := hid hres
  clear hres
  go_enter Tryz.func79, Tryz.ntmps79
  go_wp2_with fail
  go_loopg [4, 5] s.size (fun g vb vi wr => ∃ i : Nat, vi = .int .i64 i ∧ i ≤ s.size ∧ s.size - i ≤ g ∧ RrSt w s i vb wr)
  case atStart => exact ⟨0, rfl, by omega, by omega, [], World.ownsRow_nil _ _ _ _, by simp, by simp, Below.refl _ _⟩
  case round =>
    obtain ⟨i, rfl, hi, hgk, acc, hob, hal, hrd, hb⟩ := hrel
    have hszr := hb.size
    have HOB := hid hob
    have HB := hid hb
    have HRD := hid hrd
    by_cases hlt : i < s.size
    · have hltz : (i : Int) < (s.size : Int) := by omega
      have hiz : (0 : Int) ≤ i := by omega
      have hdr := drop_at s i hlt
      obtain ⟨c, hc⟩ : ∃ c, s[i] = c := ⟨_, rfl⟩
      rw [hc] at hdr
      have HDR := hid hdr
      have hc256 := c.toNat_lt
      clear hob hb hrd hdr
      cases hp : plainB (c.toNat : Int) with
      | true =>
        have HN : Hid (readL s.data.toList = (readL (s.data.toList.drop (i + 1))).map ((acc ++ [c]) ++ ·)) := rr_next HRD.out (by rw [HDR.out]; exact firstP_plain hp)
        have HPL : Hid (∀ W, Calls Tryz.prog 72 #[.int .u8 (c.toNat : Nat)] W fun e w' => e = .returned (.bool true) ∧ w' = W) := fun W => by have := rplain_any (c.toNat : Int) W; rw [hp] at this; exact this
        clear hp
        go_wp2_with (first | (go_at_call 72; refine (HPL.out _).mono ?_; rintro e w1 ⟨rfl, rfl⟩) | (at_builtin; refine wpList_append_own _ rfl _ _ 78 rfl w.heap.size 5 i0 (.int .u8 0) 1 1 Tryz.underlying78 HI.out hz0 hz1 hz2 rfl (by decide) _ _ _ rfl (World.ownsRow.alloc HOB.out _) ⟨w1.heap.size, 0, none⟩ 1 1 [.int .u8 (c.toNat : Int)] rfl rfl (new_byte _ _) (one_byte _) (by unfold maxLen; omega) (by omega) (by simp; omega) ?_))
        intro v3 w3 hown3 hg3 _
        have hob3 : OwnB w.heap.size w3 v3 (acc ++ [c]) := ownB_put hown3 rfl rfl
        have hb3 : Below w.heap.size w w3 := (HB.out.alloc (by omega) _).grown hg3 (by simp; omega) (fun k hk => (World.ownsRow.lt HOB.out k hk).1)
        have HOB3 := hid hob3
        have HB3 := hid hb3
        clear hown3 hg3 hob3 hb3
        go_wp2_with fail
        go_roundg (s.size - (i + 1))
        case measure => omega
        exact ⟨i + 1, by go_num, by omega, by omega, acc ++ [c], HOB3.out, by simp; omega, HN.out, HB3.out⟩
      | false =>
        have HPL : Hid (∀ W, Calls Tryz.prog 72 #[.int .u8 (c.toNat : Nat)] W fun e w' => e = .returned (.bool false) ∧ w' = W) := fun W => by have := rplain_any (c.toNat : Int) W; rw [hp] at this; exact this
        by_cases h37 : c = 37
        · subst h37
          by_cases hsh : s.size - i < 3
          · have hshz : decide ((s.size : Int) - (i : Int) < 3) = true := decide_eq_true (by omega)
            have HN : Hid (res = none) := HRES.out.symm.trans (rr_no hlt HRD.out (by rw [HDR.out]; exact firstP_short (by simp; omega)))
            go_wp2_with (first | (go_at_call 72; refine (HPL.out _).mono ?_; rintro e w1 ⟨rfl, rfl⟩))
            refine wp_region_quiet_lit mixed (by kernel_rfl) ?_
            repeat (go_big_quiet_step (first | (go_at_call 113; refine Calls.quiet_of_same (rhex_any _ _)) | (go_at_call 72; refine Calls.quiet_of_same (rplain_any _ _))))
            refine wpQuiet_nil ?_
            intro _ hw'
            obtain ⟨nq, hw''⟩ := hw'
            subst hw''
            go_wp2_with fail
            go_ret2
            rw [HN.out]
            exact ⟨rfl, bel_drewN HB.out _⟩
          · have hshz : decide ((s.size : Int) - (i : Int) < 3) = false := decide_eq_false (by omega)
            have hd1 := drop_at s (i + 1) (by omega)
            have hd2 := drop_at s (i + 1 + 1) (by omega)
            obtain ⟨a, ha⟩ : ∃ a, s[i + 1]'(by omega) = a := ⟨_, rfl⟩
            obtain ⟨b, hb⟩ : ∃ b, s[i + 1 + 1]'(by omega) = b := ⟨_, rfl⟩
            rw [ha] at hd1
            rw [hb] at hd2
            have hb2 : s[i + 2]'(by omega) = b := hb
            have i1 : (0 : Int) ≤ (i : Int) + 1 := by omega
            have i2 : (i : Int) + 1 < (s.size : Int) := by omega
            have i3 : (0 : Int) ≤ (i : Int) + 2 := by omega
            have i4 : (i : Int) + 2 < (s.size : Int) := by omega
            have hal16 := hexN_le a
            have hbl16 := hexN_le b
            have hdd : s.data.toList.drop i = 37 :: a :: b :: s.data.toList.drop (i + 3) := by rw [HDR.out, hd1, hd2]
            have HDD := hid hdd
            clear hd1 hd2 hdd
            by_cases hxa : hexN a = 16
            · have da : decide ((15 : Int) < (hexN a : Int)) = true := decide_eq_true (by omega)
              have HN : Hid (res = none) := HRES.out.symm.trans (rr_no hlt HRD.out (by rw [HDD.out, firstP_hex, if_pos (Or.inl hxa)]))
              clear hxa
              go_wp2_with (first | (go_at_call 72; refine (HPL.out _).mono ?_; rintro e w1 ⟨rfl, rfl⟩))
              refine wp_region_quiet_lit mixed (by kernel_rfl) ?_
              repeat (go_big_quiet_step (first | (go_at_call 113; refine Calls.quiet_of_same (rhex_any _ _)) | (go_at_call 72; refine Calls.quiet_of_same (rplain_any _ _))))
              refine wpQuiet_nil ?_
              intro _ hw'
              obtain ⟨nq, hw''⟩ := hw'
              subst hw''
              go_wp2_with fail
              go_ret2
              rw [HN.out]
              exact ⟨rfl, bel_drewN HB.out _⟩
            have da : decide ((15 : Int) < (hexN a : Int)) = false := decide_eq_false (by omega)
            by_cases hxb : hexN b = 16
            · have db : decide ((15 : Int) < (hexN b : Int)) = true := decide_eq_true (by omega)
              have HN : Hid (res = none) := HRES.out.symm.trans (rr_no hlt HRD.out (by rw [HDD.out, firstP_hex, if_pos (Or.inr hxb)]))
              clear hxb
              go_wp2_with (first | (go_at_call 72; refine (HPL.out _).mono ?_; rintro e w1 ⟨rfl, rfl⟩))
              refine wp_region_quiet_lit mixed (by kernel_rfl) ?_
              repeat (go_big_quiet_step (first | (go_at_call 113; refine Calls.quiet_of_same (rhex_any _ _)) | (go_at_call 72; refine Calls.quiet_of_same (rplain_any _ _))))
              refine wpQuiet_nil ?_
              intro _ hw'
              obtain ⟨nq, hw''⟩ := hw'
              subst hw''
              go_wp2_with fail
              go_ret2
              rw [HN.out]
              exact ⟨rfl, bel_drewN HB.out _⟩
            have db : decide ((15 : Int) < (hexN b : Int)) = false := decide_eq_false (by omega)
            have hsum : ((UInt8.ofNat (16 * hexN a + hexN b)).toNat : Int) = (hexN a : Int) * 16 + (hexN b : Int) := by
              rw [UInt8.toNat_ofNat']; omega
            have HSU := hid hsum
            have HFP : Hid (firstP (s.data.toList.drop i) = if plainB ((hexN a : Int) * 16 + (hexN b : Int)) = true then none else some (UInt8.ofNat (16 * hexN a + hexN b), 3)) := by
              show _ = _
              rw [HDD.out, firstP_hex, if_neg (by omega), hsum]
            clear hsum
            cases hq : plainB ((hexN a : Int) * 16 + (hexN b : Int)) with
            | true =>
              have HN : Hid (res = none) := HRES.out.symm.trans (rr_no hlt HRD.out (by rw [HFP.out, if_pos hq]))
              go_wp2_with (first | (go_at_call 72; refine (HPL.out _).mono ?_; rintro e w1 ⟨rfl, rfl⟩))
              refine wp_region_quiet_lit mixed (by kernel_rfl) ?_
              repeat (go_big_quiet_step (first | (go_at_call 113; refine Calls.quiet_of_same (rhex_any _ _)) | (go_at_call 72; refine Calls.quiet_of_same (rplain_any _ _))))
              refine wpQuiet_nil ?_
              intro _ hw'
              obtain ⟨nq, hw''⟩ := hw'
              subst hw''
              go_wp2_with fail
              go_ret2
              rw [HN.out]
              exact ⟨rfl, bel_drewN HB.out _⟩
            | false =>
              have HN : Hid (readL s.data.toList = (readL (s.data.toList.drop (i + 3))).map ((acc ++ [UInt8.ofNat (16 * hexN a + hexN b)]) ++ ·)) := rr_next HRD.out (by rw [HFP.out, hq]; rfl)
              go_wp2_with (first | (go_at_call 72; refine (HPL.out _).mono ?_; rintro e w1 ⟨rfl, rfl⟩))
              refine wp_region_quiet_lit mixed (by kernel_rfl) ?_
              repeat (go_big_quiet_step (first | (go_at_call 113; refine Calls.quiet_of_same (rhex_any _ _)) | (go_at_call 72; refine Calls.quiet_of_same (rplain_any _ _))))
              refine wpQuiet_nil ?_
              intro _ hw'
              obtain ⟨nq, hw''⟩ := hw'
              subst hw''
              go_wp2_with fail
              obtain ⟨W2, hW2⟩ : ∃ W2, w1.drewN nq = W2 := ⟨_, rfl⟩
              have hb2W : Below w.heap.size w W2 := by rw [← hW2]; exact bel_drewN HB.out _
              have hob2 : OwnB w.heap.size W2 u4 acc := by rw [← hW2]; exact HOB.out
              have hszW := hb2W.size
              have HBW := hid hb2W
              have HOW := hid hob2
              rw [hW2]
              clear hW2 hb2W hob2
              have x1 : IntKind.i64.wrap ((i : Int) + 1) = (i : Int) + 1 := by simp [IntKind.wrap, IntKind.signed, IntKind.bits]; omega
              have x2 : IntKind.i64.wrap ((i : Int) + 2) = (i : Int) + 2 := by simp [IntKind.wrap, IntKind.signed, IntKind.bits]; omega
              have x3 : ((i : Int) + 1).toNat = i + 1 := by omega
              have x4 : ((i : Int) + 2).toNat = i + 2 := by omega
              have x5 : IntKind.u8.wrap ((hexN a : Int) * 16) = (hexN a : Int) * 16 := wrap_byte _ (by omega)
              have x6 : IntKind.u8.wrap ((hexN a : Int) * 16 + (hexN b : Int)) = (hexN a : Int) * 16 + (hexN b : Int) := wrap_byte _ (by omega)
              go_region_law (first
                | (refine step_append_lies _ (by rfl) (.tmp 12) (.tmp 25) 78 (by rfl) w.heap.size 5 i0 (.int .u8 0) 1 1 Tryz.underlying78 HI.out hz0 hz1 hz2 rfl (by decide) u4 acc.length (Lib.byteCells acc) (by rfl) (World.ownsRow.alloc (w := W2.drew) HOW.out _) _ 1 1 [.int .u8 ((hexN a : Int) * 16 + (hexN b : Int))] (by rfl) rfl (new_byte _ _) (one_byte _) (by decide) (by unfold maxLen; omega) (by omega) (by simp; omega) _ rfl ?_; intro g4 cap4 w4 hown4 hg4 _ _)
                | (go_simp; go_at_call 113; refine (rhex_any _ _).mono ?_; rintro o w2 ⟨rfl, rfl⟩))
              all_goals
                have hob4 : OwnB w.heap.size w4 (.slice (some ⟨g4, 0, none⟩) (acc.length + 1) cap4) (acc ++ [UInt8.ofNat (16 * hexN a + hexN b)]) := ownB_put hown4 rfl HSU.out
                have hb4 : Below w.heap.size w w4 := ((bel_drewN HBW.out 1).alloc hszW _).grown hg4 (by have h1 : w.heap.size ≤ (W2.drewN 1).heap.size := hszW; simp; omega) (fun k hk => (World.ownsRow.lt HOW.out k hk).1)
                have HOB4 := hid hob4
                have HB4 := hid hb4
                clear hown4 hg4 hob4 hb4
                go_wp2_with fail
                go_roundg (s.size - (i + 3))
                case measure => omega
                exact ⟨i + 3, by go_num, by omega, by omega, _, HOB4.out, by simp; omega, HN.out, HB4.out⟩
        · have hcne : ((c.toNat : Int) != 37) = true := by
            rw [bne_iff_ne]
            intro e
            apply h37
            have : c.toNat = 37 := by omega
            exact UInt8.toNat_inj.1 this
          have HN : Hid (res = none) := HRES.out.symm.trans (rr_no hlt HRD.out (by rw [HDR.out]; exact firstP_sign hp h37))
          go_wp2_with (first | (go_at_call 72; refine (HPL.out _).mono ?_; rintro e w1 ⟨rfl, rfl⟩))
          refine wp_region_quiet_lit mixed (by kernel_rfl) ?_
          repeat (go_big_quiet_step (first | (go_at_call 113; refine Calls.quiet_of_same (rhex_any _ _)) | (go_at_call 72; refine Calls.quiet_of_same (rplain_any _ _))))
          refine wpQuiet_nil ?_
          intro _ hw'
          obtain ⟨nq, hw''⟩ := hw'
          subst hw''
          go_wp2_with fail
          go_ret2
          rw [HN.out]
          exact ⟨rfl, bel_drewN HB.out _⟩
    · have hltz : ¬ (i : Int) < (s.size : Int) := by omega
      have hres2 : res = some acc := by
        rw [← HRES.out, hrd, List.drop_of_length_le (by simp; omega), readL_nil]
        simp
      have HR2 := hid hres2
      have kc := conv_any (ownB_rest hob)
      clear hob hrd hres2
      go_wp2_with fail
      go_ret2
      rw [HR2.out]
      exact ⟨rfl, hb⟩

end Go.Proofs.YtfcjnoojcajljaaGreatDoor

/-
  ValueTexts answers true, where each text is short enough to be written.
-/
namespace Go.Proofs.YtfcjnoojcajljaaGreatDoor
open Go.RowKit

theorem hexd_table : ((List.range 16).all fun k => decide (hexN (hexd k) = k)) = true := by decide
theorem hexN_hexd {k : Nat} (h : k < 16) : hexN (hexd k) = k := by
  have := List.all_eq_true.1 hexd_table k (List.mem_range.2 h)
  exact of_decide_eq_true this

theorem hexd_hexN {c : UInt8} (h : hexN c ≠ 16) : hexd (hexN c) = c := by
  rcases hexv_cases c with h1 | ⟨k, hk, _, rfl⟩
  · rw [hexN_eq, if_neg h] at h1
    omega
  · rw [hexN_hexd hk]

theorem read_write (l : List UInt8) : readL (writeL l) = some l := by
  induction l with
  | nil => exact readL_nil
  | cons c l ih =>
    rw [writeL_cons]
    cases hp : plainB (c.toNat : Int) with
    | true =>
      have e : writeC c = [c] := by unfold writeC; rw [if_pos hp]
      rw [e, List.cons_append, List.nil_append, readL_some (firstP_plain hp)]
      show (readL (writeL l)).map _ = _
      rw [ih]; rfl
    | false =>
      have e : writeC c = [37, hexd (c.toNat / 16), hexd (c.toNat % 16)] := by unfold writeC; rw [hp]; rfl
      have hc := c.toNat_lt
      have h1 : hexN (hexd (c.toNat / 16)) = c.toNat / 16 := hexN_hexd (by omega)
      have h2 : hexN (hexd (c.toNat % 16)) = c.toNat % 16 := hexN_hexd (by omega)
      have hs : UInt8.ofNat (16 * (c.toNat / 16) + c.toNat % 16) = c := by
        rw [show 16 * (c.toNat / 16) + c.toNat % 16 = c.toNat by omega, UInt8.ofNat_toNat]
      have hf : firstP (37 :: hexd (c.toNat / 16) :: hexd (c.toNat % 16) :: writeL l) = some (c, 3) := by
        rw [firstP_hex, h1, h2, if_neg (by omega), hs, if_neg (by rw [hp]; simp)]
      rw [e]
      show readL (37 :: hexd (c.toNat / 16) :: hexd (c.toNat % 16) :: writeL l) = _
      rw [readL_some hf]
      show (readL (writeL l)).map _ = _
      rw [ih]; rfl

theorem firstP_write {l : List UInt8} {c : UInt8} {n : Nat} (h : firstP l = some (c, n)) : writeC c = l.take n ∧ 0 < n := by
  cases l with
  | nil => cases h
  | cons x r =>
    cases hp : plainB (x.toNat : Int) with
    | true =>
      rw [firstP_plain hp] at h
      cases h
      refine ⟨?_, by omega⟩
      unfold writeC
      rw [if_pos hp]
      rfl
    | false =>
      by_cases hx : x = 37
      · subst hx
        match r, h with
        | [], h => rw [firstP_short (by simp)] at h; cases h
        | [_], h => rw [firstP_short (by simp)] at h; cases h
        | a :: b :: r, h =>
          rw [firstP_hex] at h
          by_cases h1 : hexN a = 16 ∨ hexN b = 16
          · rw [if_pos h1] at h; cases h
          · rw [if_neg h1] at h
            have ha := hexN_le a
            have hb := hexN_le b
            cases hq : plainB ((UInt8.ofNat (16 * hexN a + hexN b)).toNat : Int) with
            | true => rw [if_pos hq] at h; cases h
            | false =>
              rw [if_neg (by rw [hq]; simp)] at h
              cases h
              refine ⟨?_, by omega⟩
              unfold writeC
              rw [hq]
              have e : (UInt8.ofNat (16 * hexN a + hexN b)).toNat = 16 * hexN a + hexN b := by rw [UInt8.toNat_ofNat']; omega
              rw [e, show (16 * hexN a + hexN b) / 16 = hexN a by omega, show (16 * hexN a + hexN b) % 16 = hexN b by omega, hexd_hexN (by omega), hexd_hexN (by omega)]
              rfl
      · rw [firstP_sign hp hx] at h; cases h

theorem write_read : ∀ (k : Nat) (l m : List UInt8), l.length ≤ k → readL l = some m → writeL m = l
  | 0, l, m, hl, h => by
    obtain rfl := List.length_eq_zero_iff.1 (by omega : l.length = 0)
    rw [readL_nil] at h; cases h; rfl
  | k + 1, l, m, hl, h => by
    by_cases h0 : l = []
    · subst h0; rw [readL_nil] at h; cases h; rfl
    · cases hf : firstP l with
      | none => rw [readL_none h0 hf] at h; cases h
      | some x =>
        obtain ⟨c, n⟩ := x
        rw [readL_some hf] at h
        cases hr : readL (l.drop n) with
        | none => rw [hr] at h; cases h
        | some m' =>
          rw [hr] at h
          cases h
          obtain ⟨h1, h2⟩ := firstP_write hf
          have hlen : l.length ≠ 0 := fun e => h0 (List.length_eq_zero_iff.1 e)
          have := write_read k (l.drop n) m' (by rw [List.length_drop]; omega) hr
          show writeL (c :: m') = l
          rw [writeL_cons, this, h1, List.take_append_drop]

theorem read_back (t : ByteArray) (w : World) (hp : PlainAt w) (hs : t.size ≤ 46912496118442) :
    Calls Tryz.prog 77 #[.string ⟨(writeL t.data.toList).toArray⟩] w fun e w' => e = .returned (.tuple #[.string t, .int .i64 0]) ∧ Below w.heap.size w w' := by
  have hl := writeL_len t.data.toList
  have := read_any ⟨(writeL t.data.toList).toArray⟩ w hp (by
    show (writeL t.data.toList).toArray.size ≤ _
    simp at hl ⊢
    omega)
  rw [show (ByteArray.mk (writeL t.data.toList).toArray).data.toList = writeL t.data.toList by simp, read_write] at this
  have e : (⟨t.data.toList.toArray⟩ : ByteArray) = t := by obtain ⟨⟨l⟩⟩ := t; rfl
  simp only [readV, e] at this
  exact this

theorem write_back (t : ByteArray) (m : List UInt8) (w : World) (hp : PlainAt w) (hs : t.size ≤ 46912496118442) (h : readL t.data.toList = some m) :
    Calls Tryz.prog 68 #[.string ⟨m.toArray⟩] w fun e w' => e = .returned (.string t) ∧ Below w.heap.size w w' := by
  have hl := readL_len _ _ _ (Nat.le_refl _) h
  have := write_any ⟨m.toArray⟩ w hp (by
    show m.toArray.size ≤ _
    simp at hl ⊢
    omega)
  rw [show (ByteArray.mk m.toArray).data.toList = m by simp, write_read _ _ _ (Nat.le_refl _) h] at this
  have e : (⟨t.data.toList.toArray⟩ : ByteArray) = t := by obtain ⟨⟨l⟩⟩ := t; rfl
  rw [e] at this
  exact this

end Go.Proofs.YtfcjnoojcajljaaGreatDoor

/-
  A value's line is read back as the value.
-/
namespace Go.Proofs.YtfcjnoojcajljaaGreatDoor
open Go.RowKit Go.Lib

theorem ix_here {a b : List UInt8} {c : UInt8} (h : c ∉ a) : Lib.indexByte (a ++ c :: b) c = (a.length : Int) := by
  rcases ix_cases (a ++ c :: b) c with ⟨_, h2⟩ | ⟨i, h1, h2, h3, h4⟩
  · exact absurd (by simp) h2
  · have h5 := ix_split _ c i h2 h3
    have := (ix_uniq h5 h h4).1
    rw [h1, this, List.length_take]
    omega

theorem ix_none {a : List UInt8} {c : UInt8} (h : c ∉ a) : Lib.indexByte a c = -1 := by
  rcases ix_cases a c with ⟨h1, _⟩ | ⟨i, _, h2, h3, _⟩
  · exact h1
  · exact absurd (List.mem_of_getElem? h3) h

theorem split_join : ∀ ws : List (List UInt8), ws ≠ [] → (∀ w ∈ ws, (32 : UInt8) ∉ w) → splitL (Lib.join ws [32]) = ws
  | [], h, _ => absurd rfl h
  | [w], _, h => by
    rw [Lib.join_one]
    exact splitL_no (ix_none (h w (by simp)))
  | w :: v :: ws, _, h => by
    have ih := split_join (v :: ws) (by simp) (fun x hx => h x (by simp [hx]))
    rw [join_two, splitL_yes (ix_here (h w (by simp)))]
    rw [List.take_left' rfl]
    congr 1
    rw [show w ++ 32 :: Lib.join (v :: ws) [32] = (w ++ [32]) ++ Lib.join (v :: ws) [32] by simp, List.drop_left' (by simp)]
    exact ih

theorem noblank_mem {l : List UInt8} (h : blanks l = 0) : (32 : UInt8) ∉ l := by
  intro hm
  have := List.countP_eq_zero.1 h 32 hm
  simp at this

theorem field_noeq {l : List UInt8} (h : fieldB l = true) : (61 : UInt8) ∉ l := by
  intro hc
  unfold fieldB spell at h
  cases l with
  | nil => simp at hc
  | cons x r =>
    simp only [Bool.and_eq_true, List.all_eq_true] at h
    have key : lodB ((61 : UInt8).toNat : Int) = true ∨ smallB ((61 : UInt8).toNat : Int) = true := by
      rcases List.mem_cons.1 hc with e | hc
      · exact Or.inr (by rw [e]; exact h.1.2)
      · exact Or.inl (h.2 _ hc)
    rcases key with k | k
    · revert k; decide
    · revert k; decide

theorem word_back {n t : ByteArray} (h : fieldB n.data.toList = true) : wordO (wordOf n t).data.toList = some (n.data.toList, t.data.toList) := by
  rw [word_data, List.append_assoc, List.singleton_append]
  have e := ix_here (b := writeL t.data.toList) (field_noeq h)
  unfold wordO
  rw [e, if_neg (by omega), Int.toNat_natCast, List.take_left' rfl]
  rw [show n.data.toList ++ 61 :: writeL t.data.toList = (n.data.toList ++ [61]) ++ writeL t.data.toList by simp, List.drop_left' (by simp), read_write]
  rfl

/-- Each text a field by itself. -/
def singles (fs : List Fld) : List Fld := fs.flatMap fun f => f.2.map fun t => (f.1, [t])

theorem ba_back (b : ByteArray) : (⟨b.data.toList.toArray⟩ : ByteArray) = b := by obtain ⟨⟨l⟩⟩ := b; rfl

theorem words_back (fs : List Fld) (h : ∀ f ∈ fs, fieldB f.1.data.toList = true) : fieldsW ((wordsL fs).map (·.data.toList)) = some (singles fs) := by
  induction fs with
  | nil => rfl
  | cons f fs ih =>
    have hf := h f (by simp)
    have ih := ih fun g hg => h g (by simp [hg])
    have e1 : fieldsW ((wordsF f).map (·.data.toList)) = some (f.2.map fun t => (f.1, [t])) := by
      unfold wordsF
      generalize f.2 = ts
      induction ts with
      | nil => rfl
      | cons t ts iht =>
        simp only [List.map_cons, fieldsW]
        rw [word_back hf]
        simp only
        rw [iht, ba_back, ba_back]
        rfl
    unfold wordsL at ih ⊢
    rw [List.flatMap_cons, List.map_append, fieldsW_append, e1, ih]
    rfl

theorem single_filter (f : Fld) (c : ByteArray) : ((f.2.map fun t => ((f.1, [t]) : Fld)).filter fun x => decide (x.1 = c)).flatMap (·.2) = if f.1 = c then f.2 else [] := by
  obtain ⟨n, ts⟩ := f
  simp only
  by_cases e : n = c
  · rw [if_pos e, List.filter_eq_self.2 (fun x hx => by obtain ⟨t, _, rfl⟩ := List.mem_map.1 hx; simp [e])]
    induction ts with
    | nil => rfl
    | cons t ts ih => rw [List.map_cons, List.flatMap_cons, ih]; rfl
  · rw [if_neg e, List.filter_eq_nil_iff.2 (fun x hx => by obtain ⟨t, _, rfl⟩ := List.mem_map.1 hx; simp [e])]
    rfl

theorem txt_singles (fs : List Fld) (c : ByteArray) : txtOf (singles fs) c = txtOf fs c := by
  induction fs with
  | nil => rfl
  | cons f fs ih =>
    unfold txtOf singles at *
    rw [List.flatMap_cons, List.filter_append, List.flatMap_append, single_filter, ih]
    by_cases e : f.1 = c
    · rw [if_pos e, List.filter_cons_of_pos (by simp [e]), List.flatMap_cons]
    · rw [if_neg e, List.filter_cons_of_neg (by simp [e]), List.nil_append]

theorem may_rising {fs : List Fld} (h : mayB fs = true) : Rising fs := by
  have hs := (may_parts h).2
  have step : ∀ i, (hi : i + 1 < fs.length) → ltB (fs[i]).1 (fs[i + 1]).1 = true := fun i hi => by
    have := hs (i + 1) hi
    unfold stepOk at this
    rw [Bool.and_eq_true, Bool.or_eq_true] at this
    rcases this.2 with h | h
    · have := of_decide_eq_true h; omega
    · rw [ltN_eq, Nat.add_sub_cancel, List.getD_eq_getElem?_getD, List.getD_eq_getElem?_getD, List.getElem?_eq_getElem hi, List.getElem?_eq_getElem (show i < fs.length by omega)] at h
      exact h
  refine List.pairwise_iff_getElem.2 fun i j hi hj hij => ?_
  induction j with
  | zero => omega
  | succ j ih =>
    by_cases e : i = j
    · subst e; exact step i hj
    · exact ltB_trans (ih (by omega) (by omega)) (step j hj)

theorem rising_txt {fs : List Fld} (h : Rising fs) : ∀ f ∈ fs, f.2 = txtOf fs f.1 := by
  intro f hf
  obtain ⟨a, b, rfl⟩ := List.append_of_mem hf
  have hr := List.pairwise_append.1 h
  have hr2 := List.pairwise_cons.1 hr.2.1
  have ha : a.filter (fun x => decide (x.1 = f.1)) = [] := List.filter_eq_nil_iff.2 fun x hx e => ltB_ne (hr.2.2 x hx f (by simp)) (by simpa using e)
  have hb : b.filter (fun x => decide (x.1 = f.1)) = [] := List.filter_eq_nil_iff.2 fun x hx e => ltB_ne (hr2.1 x hx) (Eq.symm (of_decide_eq_true e))
  unfold txtOf
  rw [List.filter_append, ha, List.filter_cons_of_pos (by simp), hb]
  simp

theorem groups_self {fs : List Fld} (h : Rising fs) : Groups fs fs := ⟨h, fun _ => Iff.rfl, rising_txt h⟩

theorem groups_singles {fs : List Fld} (h : Rising fs) (hne : ∀ f ∈ fs, f.2 ≠ []) : Groups (singles fs) fs := by
  refine ⟨h, fun c => ⟨?_, ?_⟩, fun f hf => ?_⟩
  · rintro ⟨f, hf, rfl⟩
    cases ht : f.2 with
    | nil => exact absurd ht (hne f hf)
    | cons t ts => exact ⟨(f.1, [t]), List.mem_flatMap.2 ⟨f, hf, List.mem_map.2 ⟨t, by rw [ht]; simp, rfl⟩⟩, rfl⟩
  · rintro ⟨x, hx, rfl⟩
    obtain ⟨f, hf, hx⟩ := List.mem_flatMap.1 hx
    obtain ⟨t, _, rfl⟩ := List.mem_map.1 hx
    exact ⟨f, hf, rfl⟩
  · rw [txt_singles]; exact rising_txt h f hf

theorem fits_ne {f : Fld} (h : fitsB f = true) : f.2 ≠ [] := fun e => by
  have := (fits_parts h).2.1
  rw [e] at this; simp at this

theorem may_nobare {fs : List Fld} (h : mayB fs = true) : fs.any bareB = false := by
  rw [List.any_eq_false]
  intro f hf hb
  exact fits_ne (may_fits h f hf) (List.isEmpty_iff.1 hb)

/-- Words, or none of the empty text. -/
def fieldsP (l : List UInt8) : Option (List Fld) := if l = [] then some [] else fieldsW (splitL l)
def codeP (l : List UInt8) : Int := match fieldsP l with
  | none => 4
  | some fs => codeF fs
def ansP (l : List UInt8) : List Fld := match fieldsP l with
  | none => []
  | some fs => ansF fs

theorem norm_singles {fs : List Fld} (h : mayB fs = true) : codeF (singles fs) = 0 ∧ ansF (singles fs) = fs := by
  have hn : normF (singles fs) = fs := groups_unique (normF_groups _) (groups_singles (may_rising h) fun f hf => fits_ne (may_fits h f hf))
  have hm : (singles fs).any misB = false := by
    rw [List.any_eq_false]
    intro x hx
    obtain ⟨f, hf, hx⟩ := List.mem_flatMap.1 hx
    obtain ⟨t, _, rfl⟩ := List.mem_map.1 hx
    have := (fits_parts (may_fits h f hf)).2.2.2.2
    simp [misB, this]
  have hc : codeF (singles fs) = 0 := by unfold codeF; rw [hm, hn, may_nobare h, h]; rfl
  exact ⟨hc, by unfold ansF; rw [hc, hn]; rfl⟩

theorem line_back {fs : List Fld} (h : mayB fs = true) : codeP (lineOf fs).data.toList = 0 ∧ ansP (lineOf fs).data.toList = fs := by
  have e0 : (lineOf fs).data.toList = Lib.join ((wordsL fs).map (·.data.toList)) [32] := by
    show (Lib.join ((wordsL fs).map (·.data.toList)) [32]).toArray.toList = _
    rw [List.toList_toArray]
  have hp : fieldsP (lineOf fs).data.toList = some (singles fs) := by
    unfold fieldsP
    by_cases hl : (lineOf fs).data.toList = []
    · rw [if_pos hl]
      have h0 : (lineOf fs).size = 0 := by
        have := congrArg List.length hl
        simpa using this
      have h1 := (line_empty fs).1 h0
      have h2 : fs = [] := by
        cases fs with
        | nil => rfl
        | cons f fs =>
          have := (fits_parts (may_fits h f (by simp))).2.1
          simp only [totF, List.map_cons, List.sum_cons] at h1
          omega
      subst h2
      rfl
    · rw [if_neg hl, e0, split_join]
      · exact words_back fs fun f hf => (fits_parts (may_fits h f hf)).2.2.2.2
      · intro e
        rw [e0, e] at hl
        exact hl rfl
      · intro w hw
        obtain ⟨x, hx, rfl⟩ := List.mem_map.1 hw
        obtain ⟨f, hf, hx⟩ := List.mem_flatMap.1 hx
        obtain ⟨t, _, rfl⟩ := List.mem_map.1 hx
        exact noblank_mem (word_noblank (fits_parts (may_fits h f hf)).2.2.2.2)
  unfold codeP ansP
  rw [hp]
  exact norm_singles h

theorem codeF_nil : codeF [] = 0 := by decide
theorem ansF_nil : ansF [] = [] := by decide

def PPost (w : World) (l : List UInt8) (e : Ending) (w' : World) : Prop :=
  (∃ u o, e = .returned (.tuple #[u, .int .i64 (codeP l)]) ∧ OwnXs w.heap.size w' u o ∧ o.map Fx.fld = ansP l) ∧ Below w.heap.size w w'

theorem ansP_fit {d : List Fx} {l : List UInt8} (hm : d.map Fx.fld = ansP l) : FitX d := by
  unfold ansP at hm
  cases h : fieldsP l with
  | none =>
    rw [h] at hm
    rw [List.map_eq_nil_iff] at hm
    subst hm
    exact ⟨by unfold maxLen; simp, fun x hx => by simp at hx⟩
  | some fs => rw [h] at hm; exact ans_fit hm

end Go.Proofs.YtfcjnoojcajljaaGreatDoor

/-
  The contracts of the reference's Words, ParseWords and Parse.
-/
namespace Go.Proofs.YtfcjnoojcajljaaGreatDoor
open Go.RowKit Go.Lib

def wordsAns (l : List UInt8) : List (List UInt8) := if l = [] then [] else splitL l

def WdPost (w : World) (l : List UInt8) (e : Ending) (w' : World) : Prop :=
  (∃ v ws, e = .returned v ∧ OwnT w.heap.size w' v ws ∧ ws.map (·.data.toList) = wordsAns l ∧ ws.length ≤ l.length + 1 ∧ ∀ x ∈ ws, x.size ≤ l.length) ∧ Below w.heap.size w w'

def WdSt (w : World) (s : ByteArray) (i f : Nat) (v : Value) (wr : World) : Prop :=
  ∃ ws : List ByteArray, OwnT w.heap.size wr v ws ∧ ws.length ≤ i ∧ (∀ x ∈ ws, x.size ≤ s.size) ∧ Below w.heap.size w wr ∧
    ((i ≤ s.size ∧ f ≤ i ∧ splitL s.data.toList = ws.map (·.data.toList) ++ splitL (s.data.toList.drop f) ∧ (32 : UInt8) ∉ (s.data.toList.drop f).take (i - f)) ∨ (i = s.size + 1 ∧ splitL s.data.toList = ws.map (·.data.toList)))

theorem ext_mid (s : ByteArray) (a b : Nat) : (s.extract a b).data.toList = (s.data.toList.drop a).take (b - a) := by
  rw [Lib.extract_data]

theorem mid_size (s : ByteArray) (a b : Nat) : (s.extract a b).size ≤ s.size := by
  simp; omega

theorem drop_mid {l : List UInt8} {f i : Nat} (hf : f ≤ i) : l.drop f = (l.drop f).take (i - f) ++ l.drop i := by
  have h : l.drop i = (l.drop f).drop (i - f) := by rw [List.drop_drop]; congr 1; omega
  rw [h, List.take_append_drop]

theorem split_at {l : List UInt8} {f i : Nat} (hf : f ≤ i) (hi : i < l.length) (hc : l[i] = 32) (hn : (32 : UInt8) ∉ (l.drop f).take (i - f)) : splitL (l.drop f) = (l.drop f).take (i - f) :: splitL (l.drop (i + 1)) := by
  have e : l.drop f = (l.drop f).take (i - f) ++ 32 :: l.drop (i + 1) := by
    conv => lhs; rw [drop_mid hf, List.drop_eq_getElem_cons hi, hc]
  have hx : Lib.indexByte (l.drop f) 32 = (((l.drop f).take (i - f)).length : Int) := by
    conv => lhs; rw [e]
    exact ix_here hn
  have hlen : ((l.drop f).take (i - f)).length = i - f := by rw [List.length_take, List.length_drop]; omega
  rw [hlen] at hx
  rw [splitL_yes hx, List.drop_drop]
  congr 3
  omega

theorem split_last {l : List UInt8} {f : Nat} (hn : (32 : UInt8) ∉ (l.drop f).take (l.length - f)) : splitL (l.drop f) = [l.drop f] := by
  rw [List.take_of_length_le (by rw [List.length_drop]; omega)] at hn
  exact splitL_no (ix_none hn)

theorem take_next {l : List UInt8} {f i : Nat} (hf : f ≤ i) (hi : i < l.length) (hc : l[i] ≠ 32) (hn : (32 : UInt8) ∉ (l.drop f).take (i - f)) : (32 : UInt8) ∉ (l.drop f).take (i + 1 - f) := by
  have hl : i - f < (l.drop f).length := by rw [List.length_drop]; omega
  rw [show i + 1 - f = (i - f) + 1 by omega, List.take_succ_eq_append_getElem hl, List.mem_append, List.mem_singleton, List.getElem_drop]
  rintro (h | h)
  · exact hn h
  · apply hc
    rw [h]
    congr 1
    omega

theorem txt_new (w : World) (t : ByteArray) : ∀ m u, ([.string t] : List Value)[m]? = some u → (w.alloc (.cells #[.string t] 9)).cell? ((⟨w.heap.size, 0, none⟩ : Addr).add m) = some u := by
  intro m u hm
  match m, hm with
  | 0, hm => simp at hm; subst hm; simp [Addr.add]

theorem txt_one (t : ByteArray) : ∀ u ∈ ([.string t] : List Value), u.oneCell' = true := by
  intro u hu; simp at hu; subst hu; rfl

theorem own_snoc {n0 : Nat} {w : World} {v : Value} {ts : List ByteArray} {t : ByteArray} (h : w.ownsRow n0 9 1 v (ts.length + 1) (ts.map Value.string ++ [.string t])) : OwnT n0 w v (ts ++ [t]) := by
  unfold OwnT
  simp only [List.length_append, List.length_cons, List.length_nil, List.map_append, List.map_cons, List.map_nil]
  exact h

set_option maxHeartbeats 4000000 in
set_option maxRecDepth 100000 in
theorem rwords_any (s : ByteArray) (w : World) (hs : s.size ≤ 1000000000000) :
    Calls Tryz.prog 47 #[.string s] w fun e w' => WdPost w s.data.toList e w' := by
  by_cases h0 : s.data.toList = []
  · have e : s = ⟨#[]⟩ := ba_eq h0
    subst e
    go_enter Tryz.func47, Tryz.ntmps47
    go_wp2_with fail
    go_ret
    exact ⟨⟨_, [], rfl, World.ownsRow_nil _ _ _ _, rfl, by simp, fun x hx => by simp at hx⟩, Below.refl _ _⟩
  obtain ⟨i0, hi0, hz0, hz1, hz2⟩ := info_parts Tryz.infoStr
  have HI := hid hi0
  have hne := nonempty_of (a := s) (fun e => h0 (List.length_eq_zero_iff.1 (by simpa using e)))
  have HAN : Hid (wordsAns s.data.toList = splitL s.data.toList) := by show _ = _; unfold wordsAns; rw [if_neg h0]
  have hlen : s.data.toList.length = s.size := by simp
  have HLEN := hid hlen
  clear hi0 h0 hlen
  go_enter Tryz.func47, Tryz.ntmps47
  go_wp2_with fail
  have ST0 : Hid (WdSt w s 0 0 (.slice none 0 0) w) := ⟨[], World.ownsRow_nil _ _ _ _, by simp, fun x hx => by simp at hx, Below.refl _ _, Or.inl ⟨by omega, by omega, by simp, by simp⟩⟩
  go_loopg [3, 4, 5] (s.size + 1) (fun g vl vf vi wr => ∃ i f : Nat, vi = .int .i64 i ∧ vf = .int .i64 f ∧ i ≤ s.size + 1 ∧ s.size + 1 - i ≤ g ∧ f ≤ s.size + 1 ∧ WdSt w s i f vl wr)
  case atStart => exact ⟨0, 0, rfl, rfl, by omega, by omega, by omega, ST0.out⟩
  case round =>
    clear ST0
    obtain ⟨i, f, rfl, rfl, hi, hgk, hf, ws, hot, hwl, hws, hb, hst⟩ := hrel
    have HOT := hid hot
    have HWS := hid hws
    have HB := hid hb
    have hsz := hb.size
    clear hot hws hb
    by_cases hlt : i ≤ s.size
    · obtain ⟨hfi, hsp, hno⟩ : f ≤ i ∧ splitL s.data.toList = ws.map (·.data.toList) ++ splitL (s.data.toList.drop f) ∧ (32 : UInt8) ∉ (s.data.toList.drop f).take (i - f) := by
        rcases hst with h | h
        · exact h.2
        · omega
      have HSP := hid hsp
      have HNO := hid hno
      have hlez : (i : Int) ≤ (s.size : Int) := by omega
      have hfz : (0 : Int) ≤ (f : Int) := by omega
      have hiz : (0 : Int) ≤ (i : Int) := by omega
      have hfiz : (f : Int) ≤ (i : Int) := by omega
      clear hst hsp hno
      by_cases he : i = s.size
      · have hez : ((i : Int) == (s.size : Int)) = true := beq_iff_eq.2 (by omega)
        have hl1 : splitL (s.data.toList.drop f) = [s.data.toList.drop f] := split_last (by rw [HLEN.out, ← he]; exact HNO.out)
        have hex : (s.extract f i).data.toList = s.data.toList.drop f := by
          rw [ext_mid, List.take_of_length_le (by rw [List.length_drop, HLEN.out]; omega)]
        have hxs := mid_size s f i
        have hnw : splitL s.data.toList = (ws ++ [s.extract f i]).map (·.data.toList) := by rw [HSP.out, hl1, List.map_append, List.map_cons, List.map_nil, hex]
        have HXS := hid hxs
        have HNW := hid hnw
        have HE := hid he
        clear he hl1 hex hxs hnw
        go_wp2_with (first | (at_builtin; refine wpList_append_own _ rfl _ _ 41 rfl w.heap.size 9 i0 (.string ⟨#[]⟩) 1 16 Tryz.underlying41 HI.out hz0 hz1 hz2 rfl (by decide) _ _ _ rfl (World.ownsRow.alloc HOT.out _) ⟨wr.heap.size, 0, none⟩ 1 1 [.string (s.extract f i)] rfl rfl (txt_new _ _) (txt_one _) (by unfold maxLen; omega) (by omega) (by simp; omega) ?_))
        intro v4 w4 hown4 hg4 _
        have HO4 := hid (own_snoc hown4)
        have HB4 : Hid (Below w.heap.size w w4) := (HB.out.alloc hsz _).grown hg4 (by simp; omega) (fun q hq => (World.ownsRow.lt HOT.out q hq).1)
        clear hown4 hg4
        go_wp2_with fail
        go_roundg (s.size + 1 - (i + 1))
        case measure => omega
        refine ⟨i + 1, i + 1, by go_num, by go_num, by omega, by omega, by omega, ws ++ [s.extract f i], HO4.out, by simp; omega, fun x hx => ?_, HB4.out, Or.inr ⟨by rw [HE.out], HNW.out⟩⟩
        rw [List.mem_append, List.mem_singleton] at hx
        rcases hx with hx | rfl
        · exact HWS.out x hx
        · exact HXS.out
      · have hez : ((i : Int) == (s.size : Int)) = false := beq_eq_false_iff_ne.2 (by omega)
        have hlt2 : i < s.size := by omega
        have hltz : (i : Int) < (s.size : Int) := by omega
        have hll : i < s.data.toList.length := by rw [HLEN.out]; exact hlt2
        have hby : s.data.toList[i] = s[i] := rfl
        obtain ⟨c, hc⟩ : ∃ c, s[i] = c := ⟨_, rfl⟩
        rw [hc] at hby
        have HBY := hid hby
        clear he hby
        by_cases h32 : c = 32
        · subst h32
          have hl1 := split_at hfi hll HBY.out HNO.out
          have hex : (s.extract f i).data.toList = (s.data.toList.drop f).take (i - f) := ext_mid _ _ _
          have hxs := mid_size s f i
          have hnw : splitL s.data.toList = (ws ++ [s.extract f i]).map (·.data.toList) ++ splitL (s.data.toList.drop (i + 1)) := by rw [HSP.out, hl1, List.map_append, List.map_cons, List.map_nil, hex]; simp
          have HXS := hid hxs
          have HNW := hid hnw
          clear hl1 hex hxs hnw
          go_wp2_with (first | (at_builtin; refine wpList_append_own _ rfl _ _ 41 rfl w.heap.size 9 i0 (.string ⟨#[]⟩) 1 16 Tryz.underlying41 HI.out hz0 hz1 hz2 rfl (by decide) _ _ _ rfl (World.ownsRow.alloc HOT.out _) ⟨wr.heap.size, 0, none⟩ 1 1 [.string (s.extract f i)] rfl rfl (txt_new _ _) (txt_one _) (by unfold maxLen; omega) (by omega) (by simp; omega) ?_))
          intro v4 w4 hown4 hg4 _
          have HO4 := hid (own_snoc hown4)
          have HB4 : Hid (Below w.heap.size w w4) := (HB.out.alloc hsz _).grown hg4 (by simp; omega) (fun q hq => (World.ownsRow.lt HOT.out q hq).1)
          clear hown4 hg4
          go_wp2_with fail
          go_roundg (s.size + 1 - (i + 1))
          case measure => omega
          refine ⟨i + 1, i + 1, by go_num, by go_num, by omega, by omega, by omega, ws ++ [s.extract f i], HO4.out, by simp; omega, fun x hx => ?_, HB4.out, Or.inl ⟨by omega, by omega, HNW.out, by simp⟩⟩
          rw [List.mem_append, List.mem_singleton] at hx
          rcases hx with hx | rfl
          · exact HWS.out x hx
          · exact HXS.out
        · have h32z : ((c.toNat : Int) == 32) = false := beq_eq_false_iff_ne.2 (fun e => h32 (UInt8.toNat_inj.1 (by show c.toNat = 32; omega)))
          have HN2 := hid (take_next hfi hll (by rw [HBY.out]; exact h32) HNO.out)
          clear h32
          go_wp2_with fail
          go_roundg (s.size + 1 - (i + 1))
          case measure => omega
          exact ⟨i + 1, f, by go_num, rfl, by omega, by omega, by omega, ws, HOT.out, by omega, HWS.out, HB.out, Or.inl ⟨by omega, by omega, HSP.out, HN2.out⟩⟩
    · have hlez : ¬ (i : Int) ≤ (s.size : Int) := by omega
      have hsp : splitL s.data.toList = ws.map (·.data.toList) := by
        rcases hst with h | h
        · omega
        · exact h.2
      have HSP := hid hsp
      clear hst hsp
      go_wp2_with fail
      go_ret
      refine ⟨⟨_, ws, rfl, HOT.out, by rw [HAN.out, HSP.out], by rw [HLEN.out]; omega, fun x hx => by rw [HLEN.out]; exact HWS.out x hx⟩, HB.out⟩

/-- What ParseWords answers. -/
def PwPost (w : World) (ls : List (List UInt8)) (e : Ending) (w' : World) : Prop :=
  ((fieldsW ls = none ∧ e = .returned (.tuple #[.slice none 0 0, .int .i64 4])) ∨
   ∃ fs, fieldsW ls = some fs ∧ ∃ u o, e = .returned (.tuple #[u, .int .i64 (codeF fs)]) ∧ OwnXs w.heap.size w' u o ∧ o.map Fx.fld = ansF fs) ∧ Below w.heap.size w w'

def PwSt (w : World) (ls : List (List UInt8)) (i : Nat) (v : Value) (wr : World) : Prop :=
  ∃ d fs, OwnXs w.heap.size wr v d ∧ d.map Fx.fld = fs ∧ fieldsW (ls.take i) = some fs ∧ d.length = i ∧ Below w.heap.size w wr

theorem fieldsW_no {a b : List (List UInt8)} {l : List UInt8} (h : wordO l = none) : fieldsW (a ++ l :: b) = none := by
  rw [fieldsW_append]
  cases fieldsW a with
  | none => rfl
  | some x => simp [fieldsW, h]

theorem fieldsW_snoc {a : List (List UInt8)} {l n t : List UInt8} {fs : List Fld} (ha : fieldsW a = some fs) (h : wordO l = some (n, t)) : fieldsW (a ++ [l]) = some (fs ++ [(⟨n.toArray⟩, [⟨t.toArray⟩])]) := by
  rw [fieldsW_append, ha]
  simp [fieldsW, h]

theorem fieldsP_words (l : List UInt8) : fieldsW (wordsAns l) = fieldsP l := by
  unfold wordsAns fieldsP
  split
  · rfl
  · rfl

theorem pw_plain {N : Nat} {l : List UInt8} {e : Ending} {w' : World} (h : (fieldsW (wordsAns l) = none ∧ e = .returned (.tuple #[.slice none 0 0, .int .i64 4])) ∨
   ∃ fs, fieldsW (wordsAns l) = some fs ∧ ∃ u o, e = .returned (.tuple #[u, .int .i64 (codeF fs)]) ∧ OwnXs N w' u o ∧ o.map Fx.fld = ansF fs) : ∃ u o, e = .returned (.tuple #[u, .int .i64 (codeP l)]) ∧ OwnXs N w' u o ∧ o.map Fx.fld = ansP l := by
  rw [fieldsP_words] at h
  unfold codeP ansP
  rcases h with ⟨h, rfl⟩ | ⟨fs, h, hr⟩
  · rw [h]
    exact ⟨_, [], rfl, own_none _ _, rfl⟩
  · rw [h]
    exact hr

end Go.Proofs.YtfcjnoojcajljaaGreatDoor

/-
  What a line's words say as terms; the contracts of the reference's ParseWords and Parse of terms.
-/
namespace Go.Proofs.YtfcjnoojcajljaaGreatDoor
open Go.RowKit Go.Lib

def isOp (c : UInt8) : Bool := opN (c.toNat : Int) != 0

/-- The term of a word, if it has one. -/
def termO (l : List UInt8) : Option Tm :=
  match l.dropWhile (fun c => !isOp c) with
  | [] => none
  | c :: r => match readL r with
    | none => none
    | some t => if 5 < opN (c.toNat : Int) ∧ r ≠ [] then none else some (⟨(l.takeWhile (fun c => !isOp c)).toArray⟩, opN (c.toNat : Int), ⟨t.toArray⟩)

def termsW : List (List UInt8) → Option (List Tm)
  | [] => some []
  | l :: ls => match termO l with
    | none => none
    | some x => (termsW ls).map (x :: ·)

theorem termsW_append (a b : List (List UInt8)) : termsW (a ++ b) = (termsW a).bind fun xs => (termsW b).map (xs ++ ·) := by
  induction a with
  | nil => simp [termsW]
  | cons l a ih =>
    simp only [List.cons_append, termsW, ih]
    cases termO l with
    | none => rfl
    | some x =>
      cases termsW a with
      | none => rfl
      | some xs => cases termsW b <;> rfl

theorem termsW_no {a b : List (List UInt8)} {l : List UInt8} (h : termO l = none) : termsW (a ++ l :: b) = none := by
  rw [termsW_append]
  cases termsW a with
  | none => rfl
  | some x => simp [termsW, h]

theorem termsW_snoc {a : List (List UInt8)} {l : List UInt8} {xs : List Tm} {x : Tm} (ha : termsW a = some xs) (h : termO l = some x) : termsW (a ++ [l]) = some (xs ++ [x]) := by
  rw [termsW_append, ha]
  simp [termsW, h]

theorem op_split {l : List UInt8} {k : Nat} (hk : k < l.length) (h : ∀ d ∈ l.take k, isOp d = false) (h2 : isOp l[k] = true) :
    l.takeWhile (fun c => !isOp c) = l.take k ∧ l.dropWhile (fun c => !isOp c) = l[k] :: l.drop (k + 1) := by
  have e : l = l.take k ++ l[k] :: l.drop (k + 1) := by
    conv => lhs; rw [← List.take_append_drop k l, List.drop_eq_getElem_cons hk]
  have hp : ∀ d ∈ l.take k, (!isOp d) = true := fun d hd => by rw [h d hd]; rfl
  constructor
  · conv => lhs; rw [e]
    rw [List.takeWhile_append_of_pos hp, List.takeWhile_cons, h2]
    simp
  · conv => lhs; rw [e]
    rw [List.dropWhile_append_of_pos hp, List.dropWhile_cons, h2]
    simp

theorem op_none {l : List UInt8} (h : ∀ d ∈ l, isOp d = false) : termO l = none := by
  have : l.dropWhile (fun c => !isOp c) = [] := by
    induction l with
    | nil => rfl
    | cons c l ih =>
      rw [List.dropWhile_cons, h c (by simp)]
      simpa using ih fun d hd => h d (by simp [hd])
  unfold termO
  rw [this]

def fitT (x : Tm) : Prop := x.1.size ≤ 1000000000000 ∧ x.2.2.size ≤ 1000000000000 ∧ 0 ≤ x.2.1 ∧ x.2.1 ≤ 7

/-- What ParseWords answers of words. -/
def codeW (o : Option (List Tm)) : Int := match o with | none => 4 | some p => mayM p
def ansW (o : Option (List Tm)) : List Tm := match o with | none => [] | some p => ansM p

def TWPost (w : World) (o : Option (List Tm)) (e : Ending) (w' : World) : Prop :=
  (∃ u, e = .returned (.tuple #[u, .int .i64 (codeW o)]) ∧ KM.Own w.heap.size w' u (ansW o)) ∧ Below w.heap.size w w'

def TWSt (w : World) (ls : List (List UInt8)) (i : Nat) (v : Value) (wr : World) : Prop :=
  ∃ d, KM.Own w.heap.size wr v d ∧ termsW (ls.take i) = some d ∧ d.length = i ∧ (∀ x ∈ d, fitT x) ∧ Below w.heap.size w wr

set_option maxHeartbeats 8000000 in
set_option maxRecDepth 100000 in
theorem rpwM_any (p : Option Addr) (cap : Nat) (ws : List ByteArray) (w : World) (ht : TxtAt w p ws) (hl : ws.length ≤ 1000000000000) (hs : ∀ x ∈ ws, x.size ≤ 1000000000000) :
    Calls Tryz.prog 46 #[.slice p ws.length cap] w fun e w' => TWPost w (termsW (ws.map (·.data.toList))) e w' := by
  obtain ⟨j0, hj0, hy0, hy1, hy2⟩ := info_parts Tryz.infoTrm
  have HJ := hid hj0
  have HT := hid ht
  have HS := hid hs
  clear hj0 ht hs
  have ST0 : Hid (TWSt w (ws.map (·.data.toList)) 0 (.slice none 0 0) w) := ⟨[], KM.own_nil _ _, by simp [termsW], rfl, fun x hx => by simp at hx, Below.refl _ _⟩
  go_enter Tryz.func46, Tryz.ntmps46
  go_wp2_with fail
  go_loopg [4, 5] ws.length (fun g vv vi wr => ∃ i : Nat, vi = .int .i64 i ∧ i ≤ ws.length ∧ ws.length - i ≤ g ∧ TWSt w (ws.map (·.data.toList)) i vv wr)
  case atStart => exact ⟨0, rfl, by omega, by omega, ST0.out⟩
  case round =>
  clear ST0
  obtain ⟨i, rfl, hi, hgk, d, hox, hfw, hdl, hft, hb⟩ := hrel
  have HOX := hid hox
  have HFW := hid hfw
  have HDL := hid hdl
  have HFT := hid hft
  have HB := hid hb
  have hsz := hb.size
  clear hox hfw hdl hft
  by_cases hlt : i < ws.length
  · have hltz : (i : Int) < (ws.length : Int) := by omega
    have hiz : (0 : Int) ≤ (i : Int) := by omega
    rcases HT.out with hn | ⟨b, off, rfl, hc⟩
    · rw [hn] at hlt; simp at hlt
    have c0 : wr.cell? ⟨b, off + i, none⟩ = some (.string ws[i]) := (hb.cell (p := ⟨b, off + i, none⟩) (cell_block (hc i hlt))).trans (hc i hlt)
    have hts := HS.out _ (List.getElem_mem hlt)
    have hsplit : ws.map (·.data.toList) = (ws.map (·.data.toList)).take i ++ (ws[i]).data.toList :: (ws.map (·.data.toList)).drop (i + 1) := by
      have h1 : i < (ws.map (·.data.toList)).length := by simpa using hlt
      have h2 : (ws.map (·.data.toList))[i] = (ws[i]).data.toList := by simp
      rw [← h2, ← List.drop_eq_getElem_cons h1, List.take_append_drop]
    have htk : (ws.map (·.data.toList)).take (i + 1) = (ws.map (·.data.toList)).take i ++ [(ws[i]).data.toList] := by
      rw [List.take_succ_eq_append_getElem (by simpa using hlt)]; simp
    obtain ⟨x, hx⟩ : ∃ x, ws[i] = x := ⟨_, rfl⟩
    rw [hx] at c0 hts hsplit htk
    have HSPL := hid hsplit
    have HTK := hid htk
    have hxl : x.data.toList.length = x.size := by simp
    have HXL := hid hxl
    have HNO : Hid (termO x.data.toList = none → termsW (ws.map (·.data.toList)) = none) := fun h => by rw [HSPL.out]; exact termsW_no h
    clear hx hsplit htk hc hb hxl HSPL
    go_wp2_with fail
    go_loopg [7] x.size (fun g vk ws => ∃ k : Nat, vk = .int .i64 k ∧ k ≤ x.size ∧ x.size - k ≤ g ∧ wr = ws ∧ Hid (∀ d ∈ x.data.toList.take k, isOp d = false))
    case atStart => exact ⟨0, rfl, by omega, by omega, rfl, (show Hid _ from by simp [Hid])⟩
    case round =>
    obtain ⟨k, rfl, hk, hgk2, rfl, HNK⟩ := hrel
    by_cases hkl : k < x.size
    · have hkz : (k : Int) < (x.size : Int) := by omega
      have hkd : decide ((k : Int) < (x.size : Int)) = true := decide_eq_true hkz
      have hk0 : (0 : Int) ≤ (k : Int) := by omega
      have hkll : k < x.data.toList.length := by rw [HXL.out]; exact hkl
      have hby : x.data.toList[k] = x[k] := rfl
      obtain ⟨c, hc⟩ : ∃ c, x[k] = c := ⟨_, rfl⟩
      rw [hc] at hby
      have HBY := hid hby
      clear hby
      have hor := opN_range (c.toNat : Int)
      have HIS : Hid (isOp c = (opN (c.toNat : Int) != 0)) := rfl
      have HOC : Hid (∀ W, Calls Tryz.prog 78 #[.int .u8 (c.toNat : Int)] W fun e w' => e = .returned (.int .i64 (opN (c.toNat : Int))) ∧ W = w') := fun W => (rop_any (c.toNat : Int) W).mono fun e w' h => ⟨h.1, h.2.symm⟩
      have HTO : Hid (isOp c = true → termO x.data.toList = match readL (x.data.toList.drop (k + 1)) with
          | none => none
          | some t => if 5 < opN (c.toNat : Int) ∧ x.data.toList.drop (k + 1) ≠ [] then none else some (⟨(x.data.toList.take k).toArray⟩, opN (c.toNat : Int), ⟨t.toArray⟩)) := fun h => by
        obtain ⟨e1, e2⟩ := op_split hkll HNK.out (by rw [HBY.out]; exact h)
        unfold termO
        rw [e2, e1, HBY.out]
      obtain ⟨o, ho⟩ : ∃ o, opN (c.toNat : Int) = o := ⟨_, rfl⟩
      rw [ho] at HIS HOC hor HTO
      clear ho
      obtain ⟨ho0, ho7⟩ := hor
      by_cases hz : o = 0
      · have HN2 : Hid (∀ d ∈ x.data.toList.take (k + 1), isOp d = false) := by
          intro d hd
          rw [List.take_succ_eq_append_getElem hkll, List.mem_append, List.mem_singleton, HBY.out] at hd
          rcases hd with h | h
          · exact HNK.out d h
          · rw [h, HIS.out, hz]; rfl
        clear HTO HIS
        subst hz
        go_wp2_with (first | (go_at_call 78; refine (HOC.out _).mono ?_; rintro e w2 ⟨rfl, rfl⟩))
        go_roundg (x.size - (k + 1))
        case measure => omega
        case rel => exact ⟨k + 1, by go_num, by omega, by omega, rfl, HN2⟩
      · have HT2 := hid (HTO.out (by rw [HIS.out, bne_iff_ne]; exact hz))
        have hzb : (o == 0) = false := beq_eq_false_iff_ne.2 hz
        have hk1 : (0 : Int) ≤ (k : Int) + 1 := by omega
        have hk2 : (k : Int) + 1 ≤ (x.size : Int) := by omega
        have hne : ((k : Int) == (x.size : Int)) = false := beq_eq_false_iff_ne.2 (by omega)
        have hrs : (x.extract (k + 1) x.size).size ≤ 140737488355327 := by simp; omega
        have HRR := hid (fun W => rread_any (x.extract (k + 1) x.size) W hrs)
        rw [ext_tail] at HRR
        have hdr : x.data.toList.drop (k + 1) = [] ↔ ¬ ((k : Int) < (x.size : Int) - 1) := by
          rw [List.drop_eq_nil_iff, HXL.out]; omega
        have HDR := hid hdr
        clear HTO HIS hz hdr hrs
        cases hrd : readL (x.data.toList.drop (k + 1)) with
        | none =>
          have HO : Hid (termsW (ws.map (·.data.toList)) = none) := by
            refine HNO.out ?_
            rw [HT2.out, hrd]
          simp only [hrd, readV] at HRR
          clear hrd HT2
          go_wp2_with (first | (go_at_call 78; refine (HOC.out _).mono ?_; rintro e w2 ⟨rfl, rfl⟩) | (go_at_call 79; refine (HRR.out _).mono ?_; rintro e w2 ⟨rfl, hb2⟩))
          go_ret2
          exact ⟨⟨_, by rw [HO.out]; rfl, by rw [HO.out]; exact KM.own_nil _ _⟩, bel_then HB.out HB.out.size hb2⟩
        | some t =>
          have htl : t.length ≤ x.size := by
            have h1 := readL_len _ _ _ (Nat.le_refl _) hrd
            rw [List.length_drop, HXL.out] at h1
            omega
          simp only [hrd, readV] at HRR
          have HTT : Hid (termO x.data.toList = if 5 < o ∧ x.data.toList.drop (k + 1) ≠ [] then none else some (⟨(x.data.toList.take k).toArray⟩, o, ⟨t.toArray⟩)) := by
            show _ = _
            rw [HT2.out, hrd]
          clear hrd HT2
          by_cases hbad : 5 < o ∧ (k : Int) < (x.size : Int) - 1
          · obtain ⟨h5, hkn⟩ := hbad
            have h5d : decide (5 < o) = true := decide_eq_true h5
            have hknd : decide ((k : Int) < (x.size : Int) - 1) = true := decide_eq_true hkn
            have HO : Hid (termsW (ws.map (·.data.toList)) = none) := by
              refine HNO.out ?_
              rw [HTT.out, if_pos ⟨h5, fun e => (HDR.out.1 e) hkn⟩]
            clear HTT
            go_wp2_with (first | (go_at_call 78; refine (HOC.out _).mono ?_; rintro e w9 ⟨rfl, rfl⟩) | (go_at_call 79; refine (HRR.out _).mono ?_; rintro e w2 ⟨rfl, hb2⟩))
            go_ret2
            exact ⟨⟨_, by rw [HO.out]; rfl, by rw [HO.out]; exact KM.own_nil _ _⟩, bel_then HB.out HB.out.size hb2⟩
          · have HO : Hid (termO x.data.toList = some (x.extract 0 k, o, ⟨t.toArray⟩)) := by
              show _ = _
              rw [HTT.out, if_neg (fun h => hbad ⟨h.1, Decidable.byContradiction fun h2 => h.2 (HDR.out.2 h2)⟩), ext_take]
            have HF1 : Hid (fitT (x.extract 0 k, o, ⟨t.toArray⟩)) := by
              refine ⟨?_, ?_, ho0, ho7⟩
              · simp; omega
              · show t.toArray.size ≤ _
                rw [List.size_toArray]; omega
            clear HTT
            have hcs : (5 < o ∧ decide (5 < o) = true ∧ ¬ (k : Int) < (x.size : Int) - 1 ∧ decide ((k : Int) < (x.size : Int) - 1) = false) ∨ (¬ 5 < o ∧ decide (5 < o) = false ∧ True ∧ True) := by
              by_cases h5 : 5 < o
              · have h6 : ¬ (k : Int) < (x.size : Int) - 1 := fun h => hbad ⟨h5, h⟩
                exact Or.inl ⟨h5, decide_eq_true h5, h6, decide_eq_false h6⟩
              · exact Or.inr ⟨h5, decide_eq_false h5, trivial, trivial⟩
            clear hbad
            obtain ⟨nm, hnm⟩ : ∃ nm, x.extract 0 k = nm := ⟨_, rfl⟩
            have HNM := hid hnm
            rw [hnm] at HO HF1
            obtain ⟨tt, htt⟩ : ∃ tt : ByteArray, ⟨t.toArray⟩ = tt := ⟨_, rfl⟩
            rw [htt] at HO HF1 HRR
            clear htt htl
            have hdl2 : d.length ≤ 1000000000000 := by rw [HDL.out]; omega
            rcases hcs with ⟨h5, h5d, hkn, hknd⟩ | ⟨h5, h5d, hkn, hknd⟩
            all_goals
              go_wp2_with (first | (go_at_call 78; refine (HOC.out _).mono ?_; rintro e w9 ⟨rfl, rfl⟩) | (go_at_call 79; refine (HRR.out _).mono ?_; rintro e w2 ⟨rfl, hb2⟩; have HO2 := hid (Kind.own_on HOX.out hb2); have HB2 : Hid (Below w.heap.size w w2) := bel_then HB.out HB.out.size hb2; clear hb2))
              have hszW := HB2.out.size
              go_region_law (first
                | (refine step_append_lies _ (by rfl) (.tmp 61) (.tmp 71) 22 (by rfl) w.heap.size 39 j0 (.agg #[.string ⟨#[]⟩, .int .i64 0, .string ⟨#[]⟩]) 3 40 Tryz.underlying22 HJ.out hy0 hy1 hy2 rfl (by decide) u4 d.length (KM.cells d) (by rfl) (World.ownsRow.alloc (w := w2.drew) HO2.out _) _ 1 1 (KM.cells [(nm, o, tt)]) (by rfl) rfl (KM.news w2.drew (nm, o, tt)) (KM.cells_ones _) (by decide) (by unfold maxLen; omega) (by omega) (by simp; omega) _ rfl ?_; intro g4 cap4 w4 hown4 hg4 _ _)
                | (go_simp; go_at_call 78; refine (HOC.out _).mono ?_; rintro e w9 ⟨rfl, rfl⟩))
              all_goals
                have HO4 : Hid (KM.Own w.heap.size w4 (.slice (some ⟨g4, 0, none⟩) (d.length + 1) cap4) (d ++ [(nm, o, tt)])) := Kind.own_snoc hown4 rfl rfl
                have HB4 : Hid (Below w.heap.size w w4) := ((bel_drewN HB2.out 1).alloc hszW _).grown hg4 (by have h1 : w.heap.size ≤ (w2.drewN 1).heap.size := hszW; simp; omega) (fun z hz => (World.ownsRow.lt HO2.out z hz).1)
                clear hown4 hg4
                go_wp2_with fail
                go_roundg (ws.length - (i + 1))
                case measure => omega
                case rel =>
                  refine ⟨i + 1, by go_num, by omega, by omega, _, HO4.out, by rw [HTK.out]; exact termsW_snoc HFW.out HO.out, by rw [List.length_append, HDL.out]; rfl, fun y hy => ?_, HB4.out⟩
                  rcases List.mem_append.1 hy with h | h
                  · exact HFT.out y h
                  · rw [List.mem_singleton.1 h]; exact HF1.out
    · have hkz : ¬ (k : Int) < (x.size : Int) := by omega
      have hkd : decide ((k : Int) < (x.size : Int)) = false := decide_eq_false hkz
      have hke : ((k : Int) == (x.size : Int)) = true := beq_iff_eq.2 (by omega)
      have HO : Hid (termsW (ws.map (·.data.toList)) = none) := by
        refine HNO.out ?_
        have h1 := HNK.out
        rw [List.take_of_length_le (by rw [HXL.out]; omega)] at h1
        exact op_none h1
      go_wp2_with fail
      go_ret2
      exact ⟨⟨_, by rw [HO.out]; rfl, by rw [HO.out]; exact KM.own_nil _ _⟩, HB.out⟩
  have hltz : ¬ (i : Int) < (ws.length : Int) := by omega
  have hfw2 : termsW (ws.map (·.data.toList)) = some d := by
    have h1 := HFW.out
    rw [List.take_of_length_le (by rw [List.length_map]; omega)] at h1
    exact h1
  have hfit : FitM d := ⟨by rw [HDL.out]; unfold maxLen; omega, fun x hx => by
    obtain ⟨a, b, c, d⟩ := HFT.out x hx
    unfold maxLen
    exact ⟨by omega, by omega, by omega, by omega⟩⟩
  have HNM := hid (rnormM_any u4 d wr (Kind.own_is HOX.out) hfit)
  have HF2 := hid hfw2
  clear hfit hfw2
  go_wp2_with (first | (go_at_call 11; refine HNM.out.mono ?_; rintro e w2 ⟨⟨u2, rfl, ho2⟩, hb2⟩))
  go_ret2
  exact ⟨⟨u2, by rw [HF2.out]; rfl, by rw [HF2.out]; exact Kind.own_weak ho2 hsz⟩, bel_then HB.out HB.out.size hb2⟩

end Go.Proofs.YtfcjnoojcajljaaGreatDoor

/-
  The contract of the reference's Parse of terms; a line of terms is read back.
-/
namespace Go.Proofs.YtfcjnoojcajljaaGreatDoor
open Go.RowKit Go.Lib

set_option maxHeartbeats 2000000 in
set_option maxRecDepth 100000 in
theorem rparseM_any (s : ByteArray) (w : World) (hs : s.size ≤ 500000000000) :
    Calls Tryz.prog 23 #[.string s] w fun e w' => TWPost w (termsW (wordsAns s.data.toList)) e w' := by
  have HW := hid (rwords_any s w (by omega))
  have hlen : s.data.toList.length = s.size := by simp
  have HLEN := hid hlen
  clear hlen
  go_enter Tryz.func23, Tryz.ntmps23
  go_wp2_with (first
    | (go_at_call 47; refine HW.out.mono ?_; rintro e w1 ⟨⟨v1, ws, rfl, hot, hwm, hwl, hws⟩, hb1⟩; obtain ⟨p1, c1, rfl⟩ := own_slice hot; rw [HLEN.out] at hwl hws; have HPW := hid (rpwM_any p1 c1 ws w1 hot.txtAt (by omega) (fun x hx => Nat.le_trans (hws x hx) (by omega))); have HWM := hid hwm; rw [HWM.out] at HPW; clear hot hwm hws hwl)
    | (go_at_call 46; refine HPW.out.mono ?_; rintro e w2 ⟨⟨u, rfl, ho⟩, hb2⟩))
  go_ret2
  exact ⟨⟨u, rfl, Kind.own_weak ho hb1.size⟩, bel_then hb1 hb1.size hb2⟩

theorem op_sign {c : UInt8} (h : isOp c = true) : c = 61 ∨ c = 33 ∨ c = 94 ∨ c = 60 ∨ c = 62 ∨ c = 63 ∨ c = 45 := by
  unfold isOp at h
  rw [bne_iff_ne] at h
  unfold opN at h
  have key : ∀ k : UInt8, (k.toNat : Int) = (c.toNat : Int) → c = k := fun k e => UInt8.toNat_inj.1 (by omega)
  by_cases h1 : (61 : Int) = c.toNat
  · exact Or.inl (key 61 h1)
  by_cases h2 : (33 : Int) = c.toNat
  · exact Or.inr (Or.inl (key 33 h2))
  by_cases h3 : (94 : Int) = c.toNat
  · exact Or.inr (Or.inr (Or.inl (key 94 h3)))
  by_cases h4 : (60 : Int) = c.toNat
  · exact Or.inr (Or.inr (Or.inr (Or.inl (key 60 h4))))
  by_cases h5 : (62 : Int) = c.toNat
  · exact Or.inr (Or.inr (Or.inr (Or.inr (Or.inl (key 62 h5)))))
  by_cases h6 : (63 : Int) = c.toNat
  · exact Or.inr (Or.inr (Or.inr (Or.inr (Or.inr (Or.inl (key 63 h6))))))
  by_cases h7 : (45 : Int) = c.toNat
  · exact Or.inr (Or.inr (Or.inr (Or.inr (Or.inr (Or.inr (key 45 h7))))))
  rw [if_neg h1, if_neg h2, if_neg h3, if_neg h4, if_neg h5, if_neg h6, if_neg h7] at h
  exact absurd rfl h

theorem field_noop {l : List UInt8} (h : fieldB l = true) : ∀ c ∈ l, isOp c = false := by
  intro c hc
  unfold fieldB spell at h
  cases l with
  | nil => simp at hc
  | cons x r =>
    simp only [Bool.and_eq_true, List.all_eq_true] at h
    have key : lodB (c.toNat : Int) = true ∨ smallB (c.toNat : Int) = true := by
      rcases List.mem_cons.1 hc with e | hc
      · exact Or.inr (by rw [e]; exact h.1.2)
      · exact Or.inl (h.2 _ hc)
    cases ho : isOp c with
    | false => rfl
    | true =>
      rcases op_sign ho with rfl | rfl | rfl | rfl | rfl | rfl | rfl <;> (rcases key with k | k <;> (revert k; decide))

theorem opC_is {o : Int} (h1 : 1 ≤ o) (h2 : o ≤ 7) : isOp (opC o) = true := by
  unfold isOp
  rw [opN_opC h1 h2, bne_iff_ne]
  omega

theorem opC_noblank (o : Int) : opC o ≠ 32 := by
  unfold opC
  repeat' split
  all_goals decide

theorem termO_back {x : Tm} (h1 : namedM x = true) (h2 : rightM x = true) : termO (wordM x).data.toList = some x := by
  obtain ⟨n, o, t⟩ := x
  have hr := rightM_range h2
  simp only at hr
  have hno := field_noop h1
  simp only at hno
  rw [wordM_data]
  simp only
  have hk : n.data.toList.length < (n.data.toList ++ opC o :: writeL t.data.toList).length := by simp
  have hg : (n.data.toList ++ opC o :: writeL t.data.toList)[n.data.toList.length] = opC o := by simp
  obtain ⟨e1, e2⟩ := op_split hk (by rw [List.take_left' rfl]; exact hno) (by rw [hg]; exact opC_is hr.1 hr.2)
  rw [List.take_left' rfl] at e1
  rw [hg, show n.data.toList ++ opC o :: writeL t.data.toList = (n.data.toList ++ [opC o]) ++ writeL t.data.toList by simp, List.drop_left' (by simp)] at e2
  unfold termO
  rw [e1, show n.data.toList ++ opC o :: writeL t.data.toList = (n.data.toList ++ [opC o]) ++ writeL t.data.toList by simp, e2]
  simp only
  rw [read_write]
  simp only
  rw [opN_opC hr.1 hr.2, if_neg, ba_back, ba_back]
  rintro ⟨h5, hne⟩
  apply hne
  unfold rightM at h2
  simp only [Bool.and_eq_true, Bool.or_eq_true, decide_eq_true_eq] at h2
  have h0 : t.size = 0 := by
    rcases h2.2 with h | h
    · omega
    · exact h
  have : t.data.toList = [] := List.length_eq_zero_iff.1 (by simpa using h0)
  rw [this]
  rfl

theorem terms_back (p : List Tm) (h : ∀ x ∈ p, namedM x = true ∧ rightM x = true) : termsW ((p.map wordM).map (·.data.toList)) = some p := by
  induction p with
  | nil => rfl
  | cons x p ih =>
    have hx := h x (by simp)
    simp only [List.map_cons, termsW]
    rw [termO_back hx.1 hx.2, ih fun y hy => h y (by simp [hy])]
    rfl

theorem wordM_noblank {x : Tm} (h1 : namedM x = true) : (32 : UInt8) ∉ (wordM x).data.toList := by
  rw [wordM_data, List.mem_append, List.mem_cons]
  rintro (h | h | h)
  · exact noblank_mem (field_noblank h1) h
  · exact opC_noblank _ h.symm
  · exact noblank_mem (write_noblank _) h

theorem wordM_pos (x : Tm) : 0 < (wordM x).size := by
  have : 0 < (wordM x).data.toList.length := by rw [wordM_data]; simp; omega
  simpa using this

/-- A line of terms is read back. -/
theorem lineM_back (p : List Tm) (h : ∀ x ∈ p, namedM x = true ∧ rightM x = true) : termsW (wordsAns (lineM p).data.toList) = some p := by
  cases p with
  | nil => rfl
  | cons x p =>
    have hne : (lineM (x :: p)).data.toList ≠ [] := by
      intro e
      have := lineB_ne (ws := (x :: p).map wordM) (by simp) (fun y hy => by obtain ⟨z, _, rfl⟩ := List.mem_map.1 hy; exact wordM_pos z)
      rw [Lib.toList_data] at this
      unfold lineM at e
      rw [e] at this
      cases this
    unfold wordsAns
    rw [if_neg hne]
    unfold lineM
    rw [lineB_data, split_join _ (by simp) (fun y hy => by
      obtain ⟨z, hz, rfl⟩ := List.mem_map.1 hy
      obtain ⟨u, hu, rfl⟩ := List.mem_map.1 hz
      exact wordM_noblank (h u hu).1)]
    exact terms_back _ h

theorem ansM_again {p : List Tm} (h : mayM p = 0) : mayM (ansM p) = 0 ∧ ansM (ansM p) = ansM p := by
  have e : ansM p = sortM p := by unfold ansM; rw [if_pos h]
  have h8 := (mayM_zero h).1
  have hl := sortM_len p
  obtain ⟨s1, s2⟩ := sortM_spec p
  rw [e]
  have hm : mayM (sortM p) = 0 := (mayM_perm s2 (by omega) h8).trans h
  refine ⟨hm, ?_⟩
  unfold ansM
  rw [if_pos hm]
  exact (sortM_unique s1 (fun _ => Iff.rfl)).symm

/-- What Parse answers of Print's line. -/
theorem lineM_parsed {p : List Tm} (h : mayM p = 0) : codeW (termsW (wordsAns (lineM (ansM p)).data.toList)) = 0 ∧ ansW (termsW (wordsAns (lineM (ansM p)).data.toList)) = ansM p := by
  rw [lineM_back _ fun x hx => ⟨(ansM_all x hx).1, (ansM_all x hx).2.1⟩]
  exact ansM_again h

/-- What Parse accepts, Print writes and Parse reads as it was. -/
theorem parsedM_fit {l : List UInt8} (h : codeW (termsW (wordsAns l)) = 0) : mayM (ansW (termsW (wordsAns l))) = 0 ∧ ansM (ansW (termsW (wordsAns l))) = ansW (termsW (wordsAns l)) := by
  cases ht : termsW (wordsAns l) with
  | none => rw [ht] at h; exact absurd h (by decide)
  | some p => rw [ht] at h; exact ansM_again h

end Go.Proofs.YtfcjnoojcajljaaGreatDoor
