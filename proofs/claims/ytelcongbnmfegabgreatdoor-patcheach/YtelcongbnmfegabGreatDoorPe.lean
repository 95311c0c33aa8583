/-
  Texts of this claim, one behind the other: Kss Ksc Re4 Re5 Hd1 Hd2 Hd3 Hp7 Hp8 Kp0 Re7 Hp9 Re3 Re6 Hpc.
-/
import Derived.Test.YtelcongbnmfegabGreatDoorPd
import Derived.Test.YtelcongbnmfegabGreatDoorPa
import Derived.Shelf.Sort.Plain
import Derived.Shelf.Slices.CompactS
import Derived.Shelf.Slices.In.SortNone
import Derived.Sort.OwnSorted
import Derived.Lib.OwnBridge
import Derived.Test.YtelcongbnmfegabGreatDoorPc
import Derived.Laws.RangeString
import Derived.Lib.IndexAny
import Derived.ChangeMaps5
import Derived.Deep.QuietTactic
import Derived.BigQuiet
import Derived.WalkMore
import Derived.Laws.CopyOwn
import Derived.Maps.AppendAt
import Derived.Test.YtelcongbnmfegabGreatDoorPb
/-
  Texts sorted, and each once: what slices.Sort and slices.Compact leave of a row of one's own.
-/
namespace Go.Proofs.YtelcongbnmfegabGreatDoor
open Go.RowKit Go.Sort Go.Lib

theorem compact_rise {α : Type} [DecidableEq α] [Inhabited α] {lt : α → α → Bool} (T : Tot lt) {d : Array α} (hle : ∀ i j, i ≤ j → j < d.size → lt d[j]! d[i]! = false) : RisingR lt (compactUpTo d d.size) ∧ ∀ x, x ∈ compactUpTo d d.size ↔ x ∈ d.toList := by
  have key : ∀ m, m ≤ d.size → RisingR lt (compactUpTo d m) ∧ ∀ x, x ∈ compactUpTo d m ↔ ∃ j, j < m ∧ d[j]! = x := by
    intro m
    induction m with
    | zero => intro _; exact ⟨List.Pairwise.nil, fun x => by simp [compactUpTo]⟩
    | succ m ih =>
      intro hm
      obtain ⟨h1, h2⟩ := ih (by omega)
      rw [compactUpTo_succ]
      cases hk : keeps d m with
      | true =>
        rw [if_pos rfl]
        constructor
        · refine List.pairwise_append.2 ⟨h1, List.pairwise_singleton _ _, fun x hx y hy => ?_⟩
          rw [List.mem_singleton] at hy
          subst hy
          obtain ⟨j, hj, rfl⟩ := (h2 x).1 hx
          have hne : d[m]! ≠ d[m - 1]! := by
            unfold keeps at hk
            rcases of_decide_eq_true hk with h | h
            · omega
            · exact h
          have ha := hle j (m - 1) (by omega) (by omega)
          have hb := hle (m - 1) m (by omega) (by omega)
          rcases T.tot d[j]! d[m]! with h | h | h
          · exact h
          · rw [h] at ha
            rcases T.tot d[m - 1]! d[m]! with h' | h' | h'
            · rw [ha] at h'; cases h'
            · exact absurd h'.symm hne
            · rw [hb] at h'; cases h'
          · rw [hle j m (by omega) (by omega)] at h; cases h
        · intro x
          rw [List.mem_append, List.mem_singleton, h2]
          constructor
          · rintro (⟨j, hj, e⟩ | e)
            · exact ⟨j, by omega, e⟩
            · exact ⟨m, by omega, e.symm⟩
          · rintro ⟨j, hj, e⟩
            by_cases hjm : j = m
            · subst hjm; exact Or.inr e.symm
            · exact Or.inl ⟨j, by omega, e⟩
      | false =>
        rw [if_neg (by simp), List.append_nil]
        refine ⟨h1, fun x => ?_⟩
        rw [h2]
        constructor
        · rintro ⟨j, hj, e⟩
          exact ⟨j, by omega, e⟩
        · rintro ⟨j, hj, e⟩
          by_cases hjm : j = m
          · subst hjm
            have hh : ¬ (j = 0 ∨ d[j]! ≠ d[j - 1]!) := by unfold keeps at hk; exact of_decide_eq_false hk
            have h0 : j ≠ 0 := fun e => hh (Or.inl e)
            have h3 : d[j]! = d[j - 1]! := Classical.byContradiction fun e => hh (Or.inr e)
            exact ⟨j - 1, by omega, by rw [← h3]; exact e⟩
          · exact ⟨j, by omega, e⟩
  obtain ⟨h1, h2⟩ := key d.size (Nat.le_refl _)
  refine ⟨h1, fun x => (h2 x).trans ?_⟩
  rw [List.mem_iff_getElem]
  constructor
  · rintro ⟨j, hj, e⟩
    exact ⟨j, by simpa using hj, by rw [← e, getElem!_pos d j hj]; simp⟩
  · rintro ⟨j, hj, e⟩
    have hj' : j < d.size := by simpa using hj
    exact ⟨j, hj', by rw [getElem!_pos d j hj', ← e]; simp⟩

def ltL (a b : List UInt8) : Bool := decide (Lib.compareBytes a b < 0)
theorem ltL_bytes (a b : List UInt8) : ltB (bytesL a) (bytesL b) = ltL a b := rfl
theorem ltL_dec (a b : List UInt8) : ltL a b = decide (a < b) := by unfold ltL; rw [cb_less, bytesLess_eq]
theorem totL : Tot ltL where
  irr a := ltB_irrefl (bytesL a)
  tr a b c h k := ltB_trans (a := bytesL a) (b := bytesL b) (c := bytesL c) h k
  tot a b := by
    rcases ltB_cases (bytesL a) (bytesL b) with h | h | h
    · exact Or.inl h
    · exact Or.inr (Or.inl (by have := congrArg (fun x : ByteArray => x.data.toList) h; simpa [bytesL] using this))
    · exact Or.inr (Or.inr h)

theorem merge_ord (ss : List (List UInt8)) : (ss.mergeSort fun x y => decide (x ≤ y)).Pairwise fun x y => ltL y x = false := by
  have h : (ss.mergeSort fun x y => decide (x ≤ y)).Pairwise fun x y => decide (x ≤ y) = true := by
    refine List.pairwise_mergeSort ?_ ?_ ss
    · intro a b c h1 h2
      simp only [decide_eq_true_eq] at *
      exact List.le_trans h1 h2
    · intro a b
      rcases List.le_total a b with h | h <;> simp [h]
  refine h.imp fun {x y} hxy => ?_
  rw [ltL_dec, decide_eq_false_iff_not]
  exact of_decide_eq_true hxy

theorem rising_bytes {r : List (List UInt8)} (h : RisingR ltL r) : RisingR ltB (r.map bytesL) := by
  unfold RisingR at *
  rw [List.pairwise_map]
  exact h.imp fun {a b} hab => hab

theorem bytes_inj : ∀ {a b : List UInt8}, bytesL a = bytesL b → a = b := fun {a b} h => by
  have := congrArg (fun x : ByteArray => x.data.toList) h
  simpa [bytesL] using this

/-- The texts, rising, each once. -/
def sortT (ts : List ByteArray) : List ByteArray := toldBy ltB some ts

theorem sortT_rising (ts : List ByteArray) : RisingR ltB (sortT ts) := told_rising totB _ _
theorem sortT_mem (ts : List ByteArray) (z : ByteArray) : z ∈ sortT ts ↔ z ∈ ts := by
  unfold sortT
  rw [told_mem totB]
  constructor
  · rintro ⟨t, ht, e⟩; rw [← Option.some.inj e]; exact ht
  · intro h; exact ⟨z, h, rfl⟩

theorem sortT_of {ts r : List ByteArray} (h1 : RisingR ltB r) (h2 : ∀ z, z ∈ r ↔ z ∈ ts) : r = sortT ts :=
  rising_uniqR totB h1 (sortT_rising ts) fun z => (h2 z).trans (sortT_mem ts z).symm

/-- What the sort, and then the doubles' fall, leave. -/
theorem sorted_texts (ts : List ByteArray) : (compactUpTo ((ts.map (·.data.toList)).mergeSort fun x y => decide (x ≤ y)).toArray ((ts.map (·.data.toList)).mergeSort fun x y => decide (x ≤ y)).toArray.size).map bytesL = sortT ts := by
  obtain ⟨m, hm⟩ : ∃ m, (ts.map (·.data.toList)).mergeSort (fun x y => decide (x ≤ y)) = m := ⟨_, rfl⟩
  have hord := merge_ord (ts.map (·.data.toList))
  have hperm : (((ts.map (·.data.toList)).mergeSort fun x y => decide (x ≤ y))).Perm (ts.map (·.data.toList)) := List.mergeSort_perm _ _
  rw [hm] at hord hperm ⊢
  obtain ⟨h1, h2⟩ := compact_rise (d := m.toArray) totL (fun i j hij hj => by
    have hj' : j < m.length := by simpa using hj
    rw [getElem!_pos m.toArray j hj, getElem!_pos m.toArray i (by omega)]
    simp only [List.getElem_toArray]
    rcases Nat.lt_or_eq_of_le hij with h | h
    · exact List.pairwise_iff_getElem.1 hord i j (by omega) hj' h
    · subst h; exact totL.irr _)
  refine sortT_of (rising_bytes h1) fun z => ?_
  rw [List.mem_map]
  constructor
  · rintro ⟨a, ha, rfl⟩
    have := (h2 a).1 ha
    simp only at this
    obtain ⟨t, ht, e⟩ := List.mem_map.1 (hperm.mem_iff.1 this)
    rw [← e]
    exact ht
  · intro hz
    exact ⟨z.data.toList, (h2 _).2 (hperm.mem_iff.2 (List.mem_map.2 ⟨z, hz, rfl⟩)), rfl⟩

end Go.Proofs.YtelcongbnmfegabGreatDoor

/-
  The contracts of slices.Sort and slices.Compact at rows of texts of one's own.
-/
namespace Go.Proofs.YtelcongbnmfegabGreatDoor
open Go.RowKit Go.Sort Go.Lib

def orderT (ts : List ByteArray) : List ByteArray := ((ts.map (·.data.toList)).mergeSort fun x y => decide (x ≤ y)).map bytesL
def onceT (ts : List ByteArray) : List ByteArray := (Lib.compact (ts.map (·.data.toList))).map bytesL

theorem bytes_lists (l : List (List UInt8)) : (l.map bytesL).map (·.data.toList) = l := by
  rw [List.map_map]
  conv => rhs; rw [← List.map_id l]
  rfl

theorem order_once (ts : List ByteArray) : onceT (orderT ts) = sortT ts := by
  unfold onceT orderT
  rw [bytes_lists]
  have := sorted_texts ts
  simpa [Lib.compact] using this

theorem encStr_bytes (l : List (List UInt8)) : l.map encStr = (l.map bytesL).map Value.string := by
  rw [← map_encStr, bytes_lists]

theorem orderT_len (ts : List ByteArray) : (orderT ts).length = ts.length := by
  unfold orderT
  rw [List.length_map, List.length_mergeSort, List.length_map]

theorem sortS_own (n0 : Nat) (u : Value) (ts : List ByteArray) (w : World) (h : OwnT n0 w u ts) (h0 : n0 ≤ w.heap.size) (hl : ts.length ≤ 4000000) :
    Calls Tryz.prog 46 #[u] w fun e w' => e = .returned (.tuple #[]) ∧ OwnT n0 w' u (orderT ts) ∧ Below n0 w w' := by
  rcases h.2 with ⟨rfl, hz⟩ | ⟨g, cap, cur, rfl, hb, hg, hn, hm, hs, ht⟩
  · obtain rfl := List.length_eq_zero_iff.1 hz
    refine (Tryz.slices_Sort_string_none _ _ w).mono ?_
    rintro e w' ⟨rfl, rfl⟩
    refine ⟨rfl, ?_, Below.refl _ _⟩
    have : orderT [] = [] := by have := orderT_len []; exact List.length_eq_zero_iff.1 this
    rw [this]
    exact h
  · obtain ⟨ss, hss⟩ : ∃ ss, ts.map (·.data.toList) = ss := ⟨_, rfl⟩
    have hsl : ss.length = ts.length := by rw [← hss, List.length_map]
    have hh : w.ownsRow n0 9 1 (.slice (some ⟨g, 0, none⟩) ts.length cap) ts.length (ss.map encStr) := by rw [← hss, map_encStr]; exact h
    obtain ⟨g', cap', e0, _, hgl, _, _, _, hH⟩ := holds_of_ownsRow hh (by simp)
    injection e0 with e1 _ e3
    injection e1 with e1
    injection e1 with e1
    subst e1 e3
    have hc := Tryz.slices_Sort_string g 0 cap ss w hH hgl (by omega)
    rw [hsl] at hc
    refine hc.mono ?_
    rintro e w' ⟨rfl, n, os, rfl⟩
    have hl2 : (ss.mergeSort fun x y => decide (x ≤ y)).length = ss.length := List.length_mergeSort ss
    refine ⟨rfl, ?_, (Below.refl _ _).grown (grownBy_sorted _) h0 (fun k hk => by cases hk; exact hb)⟩
    have := ownsRow_sorted (n := n) (os := os) (ts := ss.mergeSort fun x y => decide (x ≤ y)) (cap := cap) hl2 hb hg (by omega) hm hs
    unfold OwnT
    rw [orderT_len]
    unfold orderT
    rw [hss, ← encStr_bytes, ← hsl]
    exact this

theorem onceT_len (ts : List ByteArray) : (onceT ts).length ≤ ts.length := by
  unfold onceT
  rw [List.length_map]
  have := Lib.compact_length_le (ts.map (·.data.toList))
  rwa [List.length_map] at this

theorem compS_own (n0 : Nat) (u : Value) (ts : List ByteArray) (w : World) (h : OwnT n0 w u ts) (h0 : n0 ≤ w.heap.size) (hl : ts.length ≤ 4000000) :
    Calls Tryz.prog 47 #[u] w fun e w' => ∃ u', e = .returned u' ∧ OwnT n0 w' u' (onceT ts) ∧ Below n0 w w' := by
  rcases h.2 with ⟨rfl, hz⟩ | ⟨g, cap, cur, rfl, hb, hg, hn, hm, hs, ht⟩
  · obtain rfl := List.length_eq_zero_iff.1 hz
    refine (Any.slices_Compact_string_empty Tryz.laysCompact _ _ w).mono ?_
    rintro e w' ⟨rfl, rfl⟩
    have : onceT [] = [] := by have := onceT_len []; exact List.length_eq_zero_iff.1 (by simpa using this)
    refine ⟨_, rfl, ?_, Below.refl _ _⟩
    rw [this]
    exact h
  · obtain ⟨ss, hss⟩ : ∃ ss, ts.map (·.data.toList) = ss := ⟨_, rfl⟩
    have hsl : ss.length = ts.length := by rw [← hss, List.length_map]
    have hh : w.ownsRow n0 9 1 (.slice (some ⟨g, 0, none⟩) ts.length cap) ts.length (ss.map encStr) := by rw [← hss, map_encStr]; exact h
    obtain ⟨g', cap', e0, _, hgl, _, _, _, hH⟩ := holds_of_ownsRow hh (by simp)
    injection e0 with e1 _ e3
    injection e1 with e1
    injection e1 with e1
    subst e1 e3
    have hc := Tryz.slices_Compact_string g 0 cap ss w hH (by omega) (by omega)
    rw [hsl] at hc
    refine hc.mono ?_
    rintro e w' ⟨rfl, q, rfl⟩
    have hle := Lib.compact_length_le ss
    have ho : (onceT ts).length = (Lib.compact ss).length := by unfold onceT; rw [hss, List.length_map]
    refine ⟨_, rfl, ?_, below_putRow (Below.refl _ _) hb⟩
    have := ownsRow_putRow (q := q) (k := (Lib.compact ss).length) (ys := Lib.compact ss ++ List.replicate (ts.length - (Lib.compact ss).length) []) hh (by simp; omega) (by omega)
    rw [List.take_left] at this
    unfold OwnT
    rw [ho]
    unfold onceT
    rw [hss, ← encStr_bytes]
    exact this

end Go.Proofs.YtelcongbnmfegabGreatDoor

/-
  The contract of the reference's Diff: what its loop needs.
-/
namespace Go.Proofs.YtelcongbnmfegabGreatDoor
open Go.RowKit

/-- Whether a difference goes on with a wipe; whether both go on. -/
def wipeB : List Fld → List Fld → Bool
  | _, [] => true
  | [], _ :: _ => false
  | a :: _, b :: _ => ltB a.1 b.1
def bothB : List Fld → List Fld → Bool
  | a :: _, b :: _ => decide (a.1 = b.1) && decide (a.2 = b.2)
  | _, _ => false
def sameN : List Fld → Fld → Bool
  | a :: _, b => decide (a.1 = b.1)
  | [], _ => false

theorem diff_wipe {a : Fld} {A B : List Fld} (h : wipeB (a :: A) B = true) : diffE (a :: A) B = [(4, a.1, ⟨#[]⟩)] ++ diffE A B := by
  cases B with
  | nil => rw [diffE]; rfl
  | cons b B => rw [diffE, if_pos (show ltB a.1 b.1 = true from h)]; rfl

theorem diff_both {a b : Fld} {A B : List Fld} (h : wipeB (a :: A) (b :: B) = false) (h2 : bothB (a :: A) (b :: B) = true) : diffE (a :: A) (b :: B) = diffE A B := by
  simp only [bothB, Bool.and_eq_true, decide_eq_true_eq] at h2
  rw [diffE, if_neg (by simp only [wipeB] at h; rw [h]; decide), if_pos h2.1, if_pos h2.2]

theorem diff_sets {b : Fld} {A B : List Fld} (h : wipeB A (b :: B) = false) (h2 : bothB A (b :: B) = false) : diffE A (b :: B) = setsE b ++ diffE (if sameN A b then A.tail else A) B := by
  cases A with
  | nil => rw [diffE]; rfl
  | cons a A =>
    have h1 : ¬ ltB a.1 b.1 = true := by simp only [wipeB] at h; rw [h]; decide
    rw [diffE, if_neg h1]
    simp only [bothB] at h2
    by_cases e : a.1 = b.1
    · have h3 : ¬ a.2 = b.2 := fun k => by rw [decide_eq_true e, decide_eq_true k] at h2; cases h2
      rw [if_pos e, if_neg h3]
      simp [sameN, e]
    · rw [if_neg e]
      simp [sameN, e]

theorem sets_len (b : Fld) : (setsE b).length = b.2.length := by
  unfold setsE
  cases b.2 <;> simp

theorem sets_take {b : Fld} {k : Nat} (h : k < b.2.length) : (setsE b).take (k + 1) = (setsE b).take k ++ [((if k = 0 then 1 else 2 : Int), b.1, b.2[k])] := by
  have hl : k < (setsE b).length := by rw [sets_len]; exact h
  rw [List.take_succ_eq_append_getElem hl]
  congr 2
  obtain ⟨n, ts⟩ := b
  cases ts with
  | nil => simp at h
  | cons t ts =>
    cases k with
    | zero => rfl
    | succ k => simp [setsE]

theorem diff_len (A B : List Fld) : (diffE A B).length ≤ A.length + (B.map fun f => f.2.length).sum := by
  induction A, B using diffE.induct with
  | case1 => simp [diffE]
  | case2 a ar ih => rw [diffE]; simp at ih ⊢; omega
  | case3 b br ih => rw [diffE, List.length_append, sets_len]; simp at ih ⊢; omega
  | case4 a ar b br hlt ih => rw [diffE, if_pos hlt]; simp at ih ⊢; omega
  | case5 a ar b br hlt hab heq ih => rw [diffE, if_neg hlt, if_pos hab, if_pos heq]; simp at ih ⊢; omega
  | case6 a ar b br hlt hab heq ih => rw [diffE, if_neg hlt, if_pos hab, if_neg heq, List.length_append, sets_len]; simp at ih ⊢; omega
  | case7 a ar b br hlt hab ih => rw [diffE, if_neg hlt, if_neg hab, List.length_append, sets_len]; simp at ih ⊢; omega

theorem sum_texts (B : List Fld) (h : ∀ f ∈ B, f.2.length ≤ 8) : (B.map fun f => f.2.length).sum ≤ 8 * B.length := by
  induction B with
  | nil => simp
  | cons b B ih =>
    have h1 := h b (by simp)
    have h2 := ih fun f hf => h f (by simp [hf])
    simp
    omega

theorem diff_small {A B : List Fld} (hA : mayB A = true) (hB : mayB B = true) : (diffE A B).length ≤ 144 := by
  have h1 := diff_len A B
  have h2 := sum_texts B fun f hf => (fitsP ((mayR hB).2.1 f hf)).2.2.1
  have h3 := (mayR hA).1
  have h4 := (mayR hB).1
  omega

/-- The reference's Diff, on its way. -/
def DSt (w : World) (A B : List Fld) (i j : Nat) (vl : Value) (wr : World) : Prop :=
  ∃ e : List Ed, KE.Own w.heap.size wr vl e ∧ diffE A B = e ++ diffE (A.drop i) (B.drop j) ∧ Below w.heap.size w wr

/-- What Diff answers. -/
def DiPost (w : World) (A B : List Fld) (e : Ending) (w' : World) : Prop :=
  ∃ u, e = .returned (.tuple #[u, .int .i64 (codeDf A B)]) ∧ KE.Own w.heap.size w' u (ansDf A B) ∧ Below w.heap.size w w'

theorem di_no {w w' : World} {A B : List Fld} {c : Int} {e : Ending} (hc : codeDf A B = c) (h0 : c ≠ 0) (he : e = .returned (.tuple #[.slice none 0 0, .int .i64 c])) (hb : Below w.heap.size w w') : DiPost w A B e w' :=
  ⟨_, by rw [he, hc], by unfold ansDf; rw [if_neg (by rw [hc]; exact h0)]; exact KE.own_nil _ _, hb⟩

theorem codeDf_a {A B : List Fld} (h : mayB A = false) : codeDf A B = 3 := by unfold codeDf; rw [if_pos (Or.inl h)]
theorem codeDf_b {A B : List Fld} (h : mayB B = false) : codeDf A B = 3 := by unfold codeDf; rw [if_pos (Or.inr h)]
theorem codeDf_of {A B : List Fld} (h1 : mayB A = true) (h2 : mayB B = true) : codeDf A B = if 16 < (diffE A B).length then 5 else 0 := by
  unfold codeDf
  rw [if_neg]
  rintro (h | h)
  · rw [h1] at h; cases h
  · rw [h2] at h; cases h

/-- What the fields of a value are, in whatever world behind the call's beginning. -/
def XsHid (w : World) (p : Option Addr) (d : List Fx) : Prop :=
  ∀ i, (h : i < d.length) → ∃ b off, p = some ⟨b, off, none⟩ ∧ ∀ W, Below w.heap.size w W → W.cell? ⟨b, off + i * 2, none⟩ = some (.string (d[i]).name) ∧ W.cell? ⟨b, off + i * 2 + 1, none⟩ = some (.slice (d[i]).p (d[i]).txt.length (d[i]).cap)

theorem xsHid {w : World} {p : Option Addr} {d : List Fx} (hd : d = [] ∨ ∃ b off, p = some ⟨b, off, none⟩ ∧ XsAt w b off d) : XsHid w p d := fun i hi => by
  rcases hd with h | ⟨b, off, rfl, hxs⟩
  · subst h; simp at hi
  · exact ⟨b, off, rfl, fun W hW => hxs.kept hW i hi⟩

theorem drop_fld {d : List Fx} {i : Nat} (h : i < d.length) : (d.map Fx.fld).drop i = (d[i]).fld :: (d.map Fx.fld).drop (i + 1) := by
  rw [List.drop_eq_getElem_cons (by simpa using h)]; simp

theorem drop_end {d : List Fx} {i : Nat} (h : d.length ≤ i) : (d.map Fx.fld).drop i = [] := List.drop_eq_nil_iff.2 (by simpa using h)

end Go.Proofs.YtelcongbnmfegabGreatDoor

/-
  The walk of the reference's Diff.
-/
namespace Go.Proofs.YtelcongbnmfegabGreatDoor
open Go.RowKit

end Go.Proofs.YtelcongbnmfegabGreatDoor

/-
  The contracts of names and change.
-/
namespace Go.Proofs.YtelcongbnmfegabGreatDoor
open Go.RowKit Go.Lib

theorem rowX_at {N : Nat} {w : World} {p : Option Addr} {c n : Nat} {o : List Fx} (h : RowX N w (.slice p n c) o) : o = [] ∨ ∃ b off, p = some ⟨b, off, none⟩ ∧ XsAt w b off o := by
  rcases h.2 with ⟨hv, h0⟩ | ⟨g, cap, cur, hv, h1, h2, h3, h4, h5, h6⟩
  · exact Or.inl (List.length_eq_zero_iff.1 h0)
  · injection hv with e1 e2 e3
    subst e1
    refine Or.inr ⟨g, 0, rfl, fun i hi => ?_⟩
    obtain ⟨c0, c1⟩ := cellsX_get o i hi
    have hl : (cellsX o).length = o.length * 2 := cellsX_len o
    have e : ∀ j, j < o.length * 2 → (cellsX o)[j]? = cur[j]? := fun j hj => by
      rw [← h6, List.getElem?_take, if_pos hj, Array.getElem?_toList]
    rw [Nat.zero_add, cell_of_row w g _ cur _ _ h2, cell_of_row w g _ cur _ _ h2, ← e _ (by omega), ← e _ (by omega)]
    exact ⟨c0, c1⟩

set_option maxHeartbeats 4000000 in
set_option maxRecDepth 100000 in
theorem names_any (pa pb : Option Addr) (ca cb : Nat) (da db : List Fx) (w : World)
    (ha : da = [] ∨ ∃ b off, pa = some ⟨b, off, none⟩ ∧ XsAt w b off da) (hb : db = [] ∨ ∃ b off, pb = some ⟨b, off, none⟩ ∧ XsAt w b off db) (hla : da.length ≤ 1000) (hlb : db.length ≤ 1000) :
    Calls Tryz.prog 21 #[.slice pa da.length ca, .slice pb db.length cb] w fun e w' => ∃ u, e = .returned u ∧ OwnT w.heap.size w' u (sortT ((da ++ db).map (·.name))) ∧ Below w.heap.size w w' := by
  obtain ⟨i0, hi0, hz0, hz1, hz2⟩ := info_parts Tryz.infoStr
  have HI := hid hi0
  obtain ⟨W, hW⟩ : ∃ W, w.alloc (.cells #[.slice pa da.length ca, .slice pb db.length cb] 22) = W := ⟨_, rfl⟩
  have hbW : Below w.heap.size w W := by rw [← hW]; exact (Below.refl _ _).alloc (Nat.le_refl _) _
  have hk : ∀ {p : Option Addr} {d : List Fx}, (d = [] ∨ ∃ b off, p = some ⟨b, off, none⟩ ∧ XsAt w b off d) → (d = [] ∨ ∃ b off, p = some ⟨b, off, none⟩ ∧ XsAt W b off d) := fun h => by
    rcases h with e | ⟨b, off, e, hx⟩
    · exact Or.inl e
    · exact Or.inr ⟨b, off, e, hx.kept hbW⟩
  have HCC := hid (concatX_any w.heap.size pa pb ca cb da db W (by rw [← hW]; exact heap_alloc_new w _) (hk ha) (hk hb) hla hlb)
  have HBW := hid hbW
  obtain ⟨d, hd⟩ : ∃ d, da ++ db = d := ⟨_, rfl⟩
  have hdl : d.length ≤ 2000 := by rw [← hd, List.length_append]; omega
  rw [hd] at HCC ⊢
  clear ha hb hi0 hk hbW hd hla hlb
  go_enter Tryz.func21, Tryz.ntmps21
  go_wp2_with fail
  refine HCC.out.mono ?_
  rintro e w1 ⟨p1, k1, rfl, hr1, hb1⟩
  have HB1 := hid (bel_then HBW.out HBW.out.size hb1)
  have HD := hid (rowX_at hr1)
  clear hr1 hb1
  go_wp2_with fail
  go_loopg [5, 13] d.length (fun g vs vi wr => ∃ i : Nat, vi = .int .i64 i ∧ i ≤ d.length ∧ d.length - i ≤ g ∧ Hid (Below w1.heap.size w1 wr) ∧ Hid (OwnT w1.heap.size wr vs ((d.take i).map (·.name))))
  case atStart => exact ⟨0, rfl, by omega, by omega, Below.refl _ _, World.ownsRow_nil _ _ _ _⟩
  case round =>
    obtain ⟨i, rfl, hi, hgk, HB, HO⟩ := hrel
    by_cases hlt : i < d.length
    · have hltz : (i : Int) < (d.length : Int) := by omega
      have hiz : (0 : Int) ≤ i := by omega
      obtain ⟨b, off, rfl, hat⟩ : ∃ b off, p1 = some ⟨b, off, none⟩ ∧ XsAt w1 b off d := by
        rcases HD.out with h | h
        · subst h; simp at hlt
        · exact h
      obtain ⟨c0, c1⟩ := hat.kept HB.out i hlt
      have htk : (d.take (i + 1)).map (·.name) = (d.take i).map (·.name) ++ [(d[i]).name] := by
        rw [List.take_succ_eq_append_getElem hlt, List.map_append]; simp
      have hal2 : ((d.take i).map (·.name)).length = i := by rw [List.length_map, List.length_take]; omega
      obtain ⟨x, hx⟩ : ∃ x, d[i] = x := ⟨_, rfl⟩
      rw [hx] at c0 c1 htk
      obtain ⟨acc, hacc⟩ : ∃ acc, (d.take i).map (·.name) = acc := ⟨_, rfl⟩
      rw [hacc] at HO htk hal2
      have hal3 : acc.length ≤ 2000 := by omega
      have hsz := HB.out.size
      obtain ⟨xn, xp, xc, xt⟩ := x
      simp only [Fx.sl] at c0 c1 htk
      have HTK := hid htk
      have hb2 : Below w1.heap.size w1 ((wr.alloc (.cells #[.string xn, .slice xp xt.length xc] 35)).alloc (.cells #[.string xn] 9)) := (HB.out.alloc hsz _).alloc (Nat.le_trans (HB.out.alloc hsz _).size (Nat.le_refl _)) _
      have HO3 : Hid (OwnT w1.heap.size ((wr.alloc (.cells #[.string xn, .slice xp xt.length xc] 35)).alloc (.cells #[.string xn] 9)) _ acc) := hid (World.ownsRow.alloc (World.ownsRow.alloc HO.out _) _)
      have HB2 := hid hb2
      clear hat hx htk hacc hal2 hb2
      go_wp2_with (at_builtin; refine wpList_append_own _ rfl _ _ 32 rfl w1.heap.size 9 i0 (.string ⟨#[]⟩) 1 16 Tryz.underlying32 HI.out hz0 hz1 hz2 rfl (by decide) _ _ _ rfl HO3.out _ 1 1 [.string xn] rfl rfl (by intro j u hj; match j, hj with | 0, hj => simp at hj; subst hj; simp [Addr.add]) (by intro u hu; simp at hu; subst hu; rfl) (by unfold maxLen; omega) (by omega) HB2.out.size ?_; intro v4 w4 hown4 hg4 hnil4; have HO4 := hid hown4; have HG4 := hid hg4; clear hown4 hg4 hnil4)
      go_roundg (d.length - (i + 1))
      case measure => omega
      refine ⟨i + 1, by go_num, by omega, by omega, ?_, ?_⟩
      · exact HB2.out.grown HG4.out HB2.out.size (fun k hk => (World.ownsRow.lt HO3.out k hk).1)
      · rw [HTK.out]
        show OwnT _ _ _ _
        unfold OwnT
        rw [List.length_append, List.map_append]
        exact HO4.out
    · have hltz : ¬ (i : Int) < (d.length : Int) := by omega
      have htk2 : d.take i = d := List.take_of_length_le (by omega)
      rw [htk2] at HO
      obtain ⟨ns, hns⟩ : ∃ ns, d.map (·.name) = ns := ⟨_, rfl⟩
      have hnl : ns.length ≤ 2000 := by rw [← hns, List.length_map]; omega
      rw [hns] at HO
      have HNS := hid hns
      clear htk2 hns
      have HSO := hid (sortS_own w1.heap.size _ ns wr HO.out HB.out.size (by omega))
      have HON : Hid (onceT (orderT ns) = sortT ns) := order_once ns
      have hol : (orderT ns).length ≤ 2000 := by rw [orderT_len]; exact hnl
      go_wp2_with fail
      refine HSO.out.mono ?_
      rintro e w5 ⟨rfl, ho5, hb5⟩
      have hb51 : Below w1.heap.size w1 w5 := HB.out.trans hb5
      have HCO := hid (compS_own w1.heap.size _ (orderT ns) w5 ho5 hb51.size (by omega))
      have HB51 := hid hb51
      clear ho5 hb5 hb51
      go_wp2_with fail
      refine HCO.out.mono ?_
      rintro e w6 ⟨u6, rfl, ho6, hb6⟩
      rw [HON.out] at ho6
      have HO6 := hid ho6
      have HB6 := hid (HB51.out.trans hb6)
      clear ho6 hb6
      go_wp2_with fail
      go_ret
      exact ⟨_, rfl, by rw [HNS.out]; exact own_weak HO6.out HB1.out.size, bel_then HB1.out HB1.out.size HB6.out⟩

end Go.Proofs.YtelcongbnmfegabGreatDoor

/-
  The contract of change: the edits of one field.
-/
namespace Go.Proofs.YtelcongbnmfegabGreatDoor
open Go.RowKit Go.Lib

theorem own_litE {N : Nat} (w : World) (x : Ed) (hN : N ≤ w.heap.size) : KE.Own N (w.alloc (.cells #[.int .i64 x.1, .string x.2.1, .string x.2.2] 24)) (.slice (some ⟨w.heap.size, 0, none⟩) 1 1) [x] :=
  World.ownsRow_lit w #[.int .i64 x.1, .string x.2.1, .string x.2.2] 1 hN (by decide) rfl

theorem changeE_len (n : ByteArray) (f t : List ByteArray) : (changeE n f t).length ≤ t.length + 1 := by
  unfold changeE setsE
  split
  · simp
  · split
    · simp
    · cases t with
      | nil => simp
      | cons a t => simp

def ChPost (w : World) (l : List Ed) (e : Ending) (w' : World) : Prop := ∃ p c, e = .returned (.slice p l.length c) ∧ KE.Own w.heap.size w' (.slice p l.length c) l ∧ Below w.heap.size w w'

set_option maxHeartbeats 4000000 in
set_option maxRecDepth 100000 in
theorem change_any (n : ByteArray) (pf : Option Addr) (cf : Nat) (f : List ByteArray) (tv : Value) (t : List ByteArray) (M : Nat) (w : World) (hf : TxtAt w pf f) (ht : OwnT M w tv t) (hfl : f.length ≤ 1000) (htl : t.length ≤ 1000) :
    Calls Tryz.prog 22 #[.string n, .slice pf f.length cf, tv] w fun e w' => ChPost w (changeE n f t) e w' := by
  obtain ⟨j0, hj0, hy0, hy1, hy2⟩ := info_parts Tryz.infoEd
  have HJ := hid hj0
  obtain ⟨pt, ct, rfl, htc⟩ : ∃ p c, tv = .slice p t.length c ∧ t.length ≤ c := by
    rcases ht.2 with ⟨h1, h2⟩ | ⟨g, cap, cur, h1, _, _, h4, _⟩
    · exact ⟨none, 0, by rw [h1, h2], by omega⟩
    · exact ⟨_, cap, h1, h4⟩
  have htx' : TxtAt w pt t := OwnT.txtAt ht
  have HE := hid (eqTexts_any pf pt cf ct f t w hf htx' (by unfold maxLen; omega) (by unfold maxLen; omega))
  by_cases hft : f = t
  · have hd : decide (f = t) = true := decide_eq_true hft
    rw [hd] at HE
    have HC : Hid (changeE n f t = []) := by show _ = _; unfold changeE; rw [if_pos hft]
    clear hf ht htx' hj0 hft hd
    go_enter Tryz.func22, Tryz.ntmps22
    go_wp2_with fail
    refine HE.out.mono ?_
    rintro e w1 ⟨rfl, q, rfl⟩
    go_wp2_with fail
    go_ret
    refine ⟨none, 0, by rw [HC.out]; rfl, ?_, belE_drew (Below.refl _ _) _⟩
    rw [HC.out]
    exact KE.own_nil _ _
  · have hd : decide (f = t) = false := decide_eq_false hft
    rw [hd] at HE
    cases t with
    | nil =>
      have HC : Hid (changeE n f [] = [(4, n, ⟨#[]⟩)]) := change_wipe hft
      clear hf ht htx' hj0 hft hd
      go_enter Tryz.func22, Tryz.ntmps22
      go_wp2_with fail
      refine HE.out.mono ?_
      rintro e w1 ⟨rfl, q, rfl⟩
      go_wp2_with fail
      go_ret
      refine ⟨some ⟨w.heap.size, 0, none⟩, 1, by rw [HC.out]; rfl, ?_, (belE_drew (Below.refl _ _) q).alloc (Nat.le_refl _) _⟩
      rw [HC.out]
      exact own_litE (w.drewN q) (4, n, ⟨#[]⟩) (Nat.le_refl _)
    | cons a t =>
      have HC : Hid (changeE n f (a :: t) = (1, n, a) :: t.map fun u => (2, n, u)) := by show _ = _; unfold changeE; rw [if_neg hft, if_neg (by simp)]; rfl
      obtain ⟨b, off, rfl, hat⟩ : ∃ b off, pt = some ⟨b, off, none⟩ ∧ ∀ i (h : i < (a :: t).length), w.cell? ⟨b, off + i, none⟩ = some (.string (a :: t)[i]) := by
        rcases htx' with h | h
        · cases h
        · exact h
      have hbl : b < w.heap.size := cell_block (hat 0 (by simp))
      have HAT : Hid (∀ W, Below w.heap.size w W → ∀ i (h : i < (a :: t).length), W.cell? ⟨b, off + i, none⟩ = some (.string (a :: t)[i])) := fun W hb i h => (hb.cell (p := ⟨b, off + i, none⟩) hbl).trans (hat i h)
      obtain ⟨A, hA, HA⟩ : ∃ A : Addr, (if ct = 1 then some (⟨b, off, none⟩ : Addr) else some ⟨b, off + 1, none⟩) = some A ∧ Hid (0 < t.length → A = ⟨b, off + 1, none⟩) := by
        by_cases hh : ct = 1
        · refine ⟨_, if_pos hh, fun h0 => ?_⟩
          simp at htc
          omega
        · exact ⟨_, if_neg hh, fun _ => rfl⟩
      obtain ⟨tl, htl2⟩ : ∃ tl, t.length = tl := ⟨_, rfl⟩
      have hlen : (a :: t).length = tl + 1 := by rw [List.length_cons, htl2]
      have hl1 : (1 : Int) ≤ (tl : Int) + 1 := by omega
      have hl0 : ¬ ((tl : Int) + 1 = 0) := by omega
      have hlz : (((tl : Int) + 1) == 0) = false := by rw [beq_eq_false_iff_ne]; omega
      have hsub : tl + 1 - 1 = tl := by omega
      have htl3 : tl ≤ 1000 := by rw [← htl2]; simp at htl; omega
      have HTL := hid htl2
      rw [hlen] at HE htc ⊢
      clear hf ht htx' hj0 hft hd hat hlen htl2 htl
      go_enter Tryz.func22, Tryz.ntmps22
      go_wp2_with fail
      refine HE.out.mono ?_
      rintro e w1 ⟨rfl, q, rfl⟩
      have hbq : Below w.heap.size w (w.drewN q) := belE_drew (Below.refl _ _) q
      obtain ⟨Wq, hWq⟩ : ∃ Wq, w.drewN q = Wq := ⟨_, rfl⟩
      rw [hWq] at hbq
      have hsq : Wq.heap.size = w.heap.size := by rw [← hWq]; rfl
      have c0 := HAT.out Wq hbq 0 (by simp)
      simp only [Nat.add_zero, List.getElem_cons_zero] at c0
      have HST : Hid (KE.Own w.heap.size (Wq.alloc (.cells #[.int .i64 1, .string n, .string a] 24)) (.slice (some ⟨w.heap.size, 0, none⟩) 1 1) [(1, n, a)]) := by
        have := own_litE (N := w.heap.size) Wq (1, n, a) (by omega)
        rw [hsq] at this
        exact this
      have HBQ : Hid (Below w.heap.size w (Wq.alloc (.cells #[.int .i64 1, .string n, .string a] 24))) := hbq.alloc (by omega) _
      clear hbq
      rw [hWq]
      go_wp2_with fail
      go_loopg [7, 28] tl (fun g vl vi wr => ∃ i : Nat, vi = .int .i64 i ∧ i ≤ tl ∧ tl - i ≤ g ∧ Hid (Below w.heap.size w wr) ∧ Hid (KE.Own w.heap.size wr vl ((1, n, a) :: (t.take i).map fun u => (2, n, u))))
      case atStart => exact ⟨0, rfl, by omega, by omega, HBQ, HST⟩
      case round =>
        obtain ⟨i, rfl, hi, hgk, HB, HO⟩ := hrel
        by_cases hlt : i < tl
        · have hltz : (i : Int) < (tl : Int) := by omega
          have hiz : (0 : Int) ≤ i := by omega
          have hit : i < t.length := by rw [HTL.out]; exact hlt
          obtain rfl : A = ⟨b, off + 1, none⟩ := HA.out (by omega)
          have c1 := HAT.out _ HB.out (i + 1) (by simp; omega)
          rw [List.getElem_cons_succ, show off + (i + 1) = off + 1 + i by omega] at c1
          have htk : (t.take (i + 1)).map (fun u => ((2 : Int), n, u)) = (t.take i).map (fun u => ((2 : Int), n, u)) ++ [(2, n, t[i])] := by
            rw [List.take_succ_eq_append_getElem hit, List.map_append]; simp
          obtain ⟨x, hx⟩ : ∃ x, t[i] = x := ⟨_, rfl⟩
          rw [hx] at c1 htk
          obtain ⟨acc, hacc⟩ : ∃ acc : List Ed, ((1, n, a) :: (t.take i).map fun u => ((2 : Int), n, u)) = acc := ⟨_, rfl⟩
          have hal : acc.length ≤ 1001 := by rw [← hacc]; simp; omega
          have htk2 : ((1, n, a) :: (t.take (i + 1)).map fun u => ((2 : Int), n, u)) = acc ++ [(2, n, x)] := by rw [htk, ← hacc]; rfl
          rw [hacc] at HO
          have HTK := hid htk2
          have hsz := HB.out.size
          have hb2 := HB.out.alloc hsz (.cells #[.int .i64 2, .string n, .string x] 24)
          have HB2 := hid hb2
          have HO3 : Hid (KE.Own w.heap.size (wr.alloc (.cells #[.int .i64 2, .string n, .string x] 24)) _ acc) := hid (World.ownsRow.alloc HO.out _)
          have HNW := hid (KE.news wr (2, n, x))
          clear hx htk htk2 hacc hb2
          go_wp2_with (at_builtin; refine wpList_append_own _ rfl _ _ 29 rfl w.heap.size 24 j0 (.agg #[.int .i64 0, .string ⟨#[]⟩, .string ⟨#[]⟩]) 3 40 Tryz.underlying29 HJ.out hy0 hy1 hy2 rfl (by decide) _ _ _ rfl HO3.out _ 1 1 (KE.cells [(2, n, x)]) rfl rfl HNW.out (KE.cells_ones _) (by unfold maxLen; omega) (by omega) HB2.out.size ?_; intro v4 w4 hown4 hg4 hnil4; have HO4 := hid hown4; have HG4 := hid hg4; clear hown4 hg4 hnil4)
          go_roundg (tl - (i + 1))
          case measure => omega
          refine ⟨i + 1, by go_num, by omega, by omega, ?_, ?_⟩
          · exact HB2.out.grown HG4.out HB2.out.size (fun k hk => (World.ownsRow.lt HO3.out k hk).1)
          · rw [HTK.out]
            exact Kind.own_snoc HO4.out rfl rfl
        · have hltz : ¬ (i : Int) < (tl : Int) := by omega
          have htk2 : t.take i = t := List.take_of_length_le (by rw [HTL.out]; omega)
          rw [htk2] at HO
          obtain ⟨p5, c5, rfl⟩ := Kind.own_shape HO.out
          rw [List.length_cons, List.length_map] at HO
          go_wp2_with fail
          go_ret
          refine ⟨p5, c5, ?_, ?_, HB.out⟩
          · rw [HC.out, List.length_cons, List.length_map]; rfl
          · rw [HC.out, List.length_cons, List.length_map]; exact HO.out

end Go.Proofs.YtelcongbnmfegabGreatDoor

/-
  The contract of Diff.
-/
namespace Go.Proofs.YtelcongbnmfegabGreatDoor
open Go.RowKit Go.Lib

theorem may_16 {d : List Fx} (h : mayB (d.map Fx.fld) = true) : ∀ x ∈ d, x.txt.length * 16 ≤ 140737488355328 := fun x hx => by
  have := (fitsP ((mayR h).2.1 x.fld (List.mem_map.2 ⟨x, hx, rfl⟩))).2.2.1
  have h2 : x.txt.length ≤ 8 := this
  omega

theorem map_names (d : List Fx) : (d.map Fx.fld).map (·.1) = d.map (·.name) := by rw [List.map_map]; rfl

set_option maxHeartbeats 4000000 in
set_option maxRecDepth 100000 in
theorem pdiff_plain (va vb : Value) (da db : List Fx) (w : World) (ha : IsXs w va da) (hb : IsXs w vb db) (hfa : FitX da) (hfb : FitX db) :
    Calls Tryz.prog 10 #[va, vb] w fun e w' => DiPost w (da.map Fx.fld) (db.map Fx.fld) e w' := by
  have HMA := hid (may_any va da w ha hfa)
  have HMB := hid (fun W (hW : Below w.heap.size w W) => may_any vb db W (hb.kept hW) hfb)
  cases hma : mayB (da.map Fx.fld) with
  | false =>
    rw [hma] at HMA
    have HC : Hid (codeDf (da.map Fx.fld) (db.map Fx.fld) = 3) := by show _ = _; unfold codeDf; rw [if_pos (Or.inl hma)]
    have HA : Hid (ansDf (da.map Fx.fld) (db.map Fx.fld) = []) := by show _ = _; unfold ansDf; rw [HC.out, if_neg (by decide)]
    clear ha hb hfa hfb hma
    go_enter Tryz.func10, Tryz.ntmps10
    go_wp2_with fail
    refine HMA.out.mono ?_
    rintro e w1 ⟨rfl, hg1⟩
    have HB1 := hid hg1.below
    clear hg1
    go_wp2_with fail
    go_ret2
    exact ⟨_, by rw [HC.out]; rfl, by rw [HA.out]; exact KE.own_nil _ _, HB1.out⟩
  | true =>
  rw [hma] at HMA
  cases hmb : mayB (db.map Fx.fld) with
  | false =>
    rw [hmb] at HMB
    have HC : Hid (codeDf (da.map Fx.fld) (db.map Fx.fld) = 3) := by show _ = _; unfold codeDf; rw [if_pos (Or.inr hmb)]
    have HA : Hid (ansDf (da.map Fx.fld) (db.map Fx.fld) = []) := by show _ = _; unfold ansDf; rw [HC.out, if_neg (by decide)]
    clear ha hb hfa hfb hma hmb
    go_enter Tryz.func10, Tryz.ntmps10
    go_wp2_with fail
    refine HMA.out.mono ?_
    rintro e w1 ⟨rfl, hg1⟩
    have HB1 := hid hg1.below
    clear hg1
    go_wp2_with fail
    refine (HMB.out _ HB1.out).mono ?_
    rintro e w2 ⟨rfl, hg2⟩
    have HB2 := hid (bel_then HB1.out HB1.out.size hg2.below)
    clear hg2
    go_wp2_with fail
    go_ret2
    exact ⟨_, by rw [HC.out]; rfl, by rw [HA.out]; exact KE.own_nil _ _, HB2.out⟩
  | true =>
    rw [hmb] at HMB
    obtain ⟨j0, hj0, hy0, hy1, hy2⟩ := info_parts Tryz.infoEd
    have HJ := hid hj0
    obtain ⟨ra1, ra2, ra3⟩ := mayR hma
    obtain ⟨rb1, rb2, rb3⟩ := mayR hmb
    rw [List.length_map] at ra1 rb1
    have HTA := hid (fun W (n : ByteArray) (hW : Below w.heap.size w W) => texts_any va n da W (ha.kept hW) hfa (may_16 hma))
    have HTB := hid (fun W (n : ByteArray) (hW : Below w.heap.size w W) => texts_any vb n db W (hb.kept hW) hfb (may_16 hmb))
    have HLA := hid (fun n => (okR_texts (okR_may hma) n).1)
    have HLB := hid (fun n => (okR_texts (okR_may hmb) n).1)
    have HDI : Hid (diffE (da.map Fx.fld) (db.map Fx.fld) = (sortT ((da ++ db).map (·.name))).flatMap fun n => changeE n (textsOf (da.map Fx.fld) n) (textsOf (db.map Fx.fld) n)) :=
      diff_by ra3 rb3 (may_nobareE hma) (may_nobareE hmb) (sortT_rising _) (fun n => by rw [sortT_mem, List.map_append, List.mem_append, map_names, map_names])
    have hsl : (sortT ((da ++ db).map (·.name))).length ≤ 32 := by
      have e := order_once ((da ++ db).map (·.name))
      have h1 := onceT_len (orderT ((da ++ db).map (·.name)))
      rw [e, orderT_len, List.length_map, List.length_append] at h1
      omega
    obtain ⟨pa, ca, rfl, hxa, _⟩ := ha
    obtain ⟨pb, cb, rfl, hxb, _⟩ := hb
    have HNM : Hid (∀ W, Below w.heap.size w W → Calls Tryz.prog 21 #[.slice pa da.length ca, .slice pb db.length cb] W fun e w' => ∃ u, e = .returned u ∧ OwnT W.heap.size w' u (sortT ((da ++ db).map (·.name))) ∧ Below W.heap.size W w') := fun W hW =>
      names_any pa pb ca cb da db W (by
        rcases hxa with e | ⟨b, off, e, hx⟩
        · exact Or.inl e
        · exact Or.inr ⟨b, off, e, hx.kept hW⟩) (by
        rcases hxb with e | ⟨b, off, e, hx⟩
        · exact Or.inl e
        · exact Or.inr ⟨b, off, e, hx.kept hW⟩) (by omega) (by omega)
    obtain ⟨G, hG⟩ : ∃ G, sortT ((da ++ db).map (·.name)) = G := ⟨_, rfl⟩
    rw [hG] at HNM HDI hsl
    obtain ⟨A, hA⟩ : ∃ A, da.map Fx.fld = A := ⟨_, rfl⟩
    obtain ⟨B, hB⟩ : ∃ B, db.map Fx.fld = B := ⟨_, rfl⟩
    have HCD : Hid (codeDf A B = if 16 < (diffE A B).length then 5 else 0) := by
      show _ = _
      unfold codeDf
      rw [← hA, ← hB, if_neg (by rw [hma, hmb]; simp)]
    rw [hA, hB] at HDI ⊢
    rw [hA] at HTA HLA
    rw [hB] at HTB HLB
    clear hfa hfb hma hmb hj0 ra1 ra2 ra3 rb1 rb2 rb3 hxa hxb hG hA hB
    go_enter Tryz.func10, Tryz.ntmps10
    go_wp2_with fail
    refine HMA.out.mono ?_
    rintro e w1 ⟨rfl, hg1⟩
    have HB1 := hid hg1.below
    clear hg1
    go_wp2_with fail
    refine (HMB.out _ HB1.out).mono ?_
    rintro e w2 ⟨rfl, hg2⟩
    have HB2 := hid (bel_then HB1.out HB1.out.size hg2.below)
    clear hg2
    go_wp2_with fail
    refine (HNM.out _ HB2.out).mono ?_
    rintro e w3 ⟨un, rfl, hon, hb3⟩
    obtain ⟨pn, cn, rfl⟩ := own_slice hon
    have HTN := hid hon.txtAt
    have HB3 := hid (bel_then HB2.out HB2.out.size hb3)
    clear hon hb3
    go_wp2_with fail
    go_loopg [6, 21] G.length (fun g vl vi wr => ∃ i : Nat, vi = .int .i64 i ∧ i ≤ G.length ∧ G.length - i ≤ g ∧ Hid (Below w3.heap.size w3 wr) ∧ Hid (((G.take i).flatMap fun n => changeE n (textsOf A n) (textsOf B n)).length ≤ 9 * i) ∧ Hid (KE.Own w3.heap.size wr vl ((G.take i).flatMap fun n => changeE n (textsOf A n) (textsOf B n))))
    case atStart => exact ⟨0, rfl, by omega, by omega, Below.refl _ _, Nat.zero_le _, KE.own_nil _ _⟩
    case round =>
      obtain ⟨i, rfl, hi, hgk, HB, HL, HO⟩ := hrel
      by_cases hlt : i < G.length
      · have hltz : (i : Int) < (G.length : Int) := by omega
        have hiz : (0 : Int) ≤ i := by omega
        obtain ⟨b, off, rfl, hat⟩ : ∃ b off, pn = some ⟨b, off, none⟩ ∧ ∀ i (h : i < G.length), w3.cell? ⟨b, off + i, none⟩ = some (.string G[i]) := by
          rcases HTN.out with h | h
          · subst h; simp at hlt
          · exact h
        have c0 : wr.cell? ⟨b, off + i, none⟩ = some (.string G[i]) := (HB.out.cell (p := ⟨b, off + i, none⟩) (cell_block (hat i hlt))).trans (hat i hlt)
        have htk : ((G.take (i + 1)).flatMap fun n => changeE n (textsOf A n) (textsOf B n)) = ((G.take i).flatMap fun n => changeE n (textsOf A n) (textsOf B n)) ++ changeE G[i] (textsOf A G[i]) (textsOf B G[i]) := by
          rw [List.take_succ_eq_append_getElem hlt, List.flatMap_append]; simp
        obtain ⟨n, hn⟩ : ∃ n, G[i] = n := ⟨_, rfl⟩
        rw [hn] at c0 htk
        have hla := HLA.out n
        have hlb := HLB.out n
        have hta := HTA.out wr n (bel_then HB3.out HB3.out.size HB.out)
        have HTB2 : Hid (∀ W, Below wr.heap.size wr W → Calls Tryz.prog 23 #[.slice pb db.length cb, .string n] W fun e w' => TxPost W (textsOf B n) e w') := fun W h => HTB.out W n (bel_then (bel_then HB3.out HB3.out.size HB.out) (Nat.le_trans HB3.out.size HB.out.size) h)
        obtain ⟨ta, hta2⟩ : ∃ ta, textsOf A n = ta := ⟨_, rfl⟩
        obtain ⟨tb, htb2⟩ : ∃ tb, textsOf B n = tb := ⟨_, rfl⟩
        rw [hta2] at hta hla htk
        rw [htb2] at HTB2 hlb htk
        have HTA2 := hid hta
        have hcl := changeE_len n ta tb
        obtain ⟨acc, hacc⟩ : ∃ acc, ((G.take i).flatMap fun n => changeE n (textsOf A n) (textsOf B n)) = acc := ⟨_, rfl⟩
        rw [hacc] at HO htk HL
        have hal : acc.length ≤ 9 * i := HL.out
        have HTK := hid htk
        have HNL : Hid (((G.take (i + 1)).flatMap fun n => changeE n (textsOf A n) (textsOf B n)).length ≤ 9 * (i + 1)) := by
          show _ ≤ _
          rw [htk, List.length_append]
          omega
        have HCH : Hid (∀ (W : World) (pf : Option Addr) (cf : Nat) (tv : Value) (M : Nat), TxtAt W pf ta → OwnT M W tv tb → Calls Tryz.prog 22 #[.string n, .slice pf ta.length cf, tv] W fun e w' => ChPost W (changeE n ta tb) e w') := fun W pf cf tv M h1 h2 => change_any n pf cf ta tv tb M W h1 h2 (by omega) (by omega)
        obtain ⟨ce, hce⟩ : ∃ ce, changeE n ta tb = ce := ⟨_, rfl⟩
        rw [hce] at hcl HTK HCH
        have hsz := HB.out.size
        clear hat hn htk hta hacc hta2 htb2 hce HL
        go_wp2_with fail
        refine HTA2.out.mono ?_
        rintro e w4 ⟨⟨av, rfl, hoa⟩, hb4⟩
        obtain ⟨p4, c4, rfl⟩ := own_slice hoa
        have HOA := hid hoa.txtAt
        have HB4 := hid hb4
        clear hoa hb4
        go_wp2_with fail
        refine (HTB2.out _ HB4.out).mono ?_
        rintro e w5 ⟨⟨bv, rfl, hob⟩, hb5⟩
        have HB5 := hid (bel_then HB4.out HB4.out.size hb5)
        have HCA := hid (HCH.out w5 p4 c4 bv w4.heap.size (HOA.out.kept hb5) hob)
        clear hob hb5
        go_wp2_with fail
        refine HCA.out.mono ?_
        rintro e w6 ⟨p6, c6, rfl, ho6, hb6⟩
        have hb61 : Below wr.heap.size wr w6 := bel_then HB5.out HB5.out.size hb6
        have hb63 : Below w3.heap.size w3 w6 := bel_then HB.out HB.out.size hb61
        have HO6 := hid (Kind.own_on HO.out hb61)
        have hsrc : ce.length = 0 ∨ ∃ ad, p6 = some ad ∧ ∀ j u, (KE.cells ce)[j]? = some u → w6.cell? (ad.add j) = some u := by
          obtain ⟨pp, cc, e1, e2⟩ := Kind.own_is ho6
          injection e1 with e1
          subst e1
          exact Kind.src e2
        have HSRC := hid hsrc
        have HB63 := hid hb63
        clear ho6 hb6 hb61 hb63 hsrc
        go_wp2_with (at_builtin; refine wpList_append_rows _ rfl _ _ 29 rfl w3.heap.size 24 j0 (.agg #[.int .i64 0, .string ⟨#[]⟩, .string ⟨#[]⟩]) 3 40 Tryz.underlying29 HJ.out hy0 hy1 hy2 rfl (by decide) _ _ _ rfl HO6.out p6 ce.length c6 (KE.cells ce) rfl (KE.cells_len ce) HSRC.out (KE.cells_ones _) (by unfold maxLen; omega) (by omega) HB63.out.size ?_; intro v7 w7 hown7 hg7; have HO7 := hid hown7; have HG7 := hid hg7; clear hown7 hg7)
        go_roundg (G.length - (i + 1))
        case measure => omega
        refine ⟨i + 1, by go_num, by omega, by omega, ?_, HNL, ?_⟩
        · exact HB63.out.grown HG7.out HB63.out.size (fun k hk => (World.ownsRow.lt HO6.out k hk).1)
        · rw [HTK.out]
          show World.ownsRow _ _ _ _ _ _ _
          rw [List.length_append, Kind.cells_append]
          exact HO7.out
      · have hltz : ¬ (i : Int) < (G.length : Int) := by omega
        have htk2 : G.take i = G := List.take_of_length_le (by omega)
        rw [htk2, ← HDI.out] at HO
        obtain ⟨p7, c7, rfl⟩ := Kind.own_shape HO.out
        obtain ⟨D, hD⟩ : ∃ D, diffE A B = D := ⟨_, rfl⟩
        rw [hD] at HO HCD
        have HDD := hid hD
        have HBW := hid (bel_then HB3.out HB3.out.size HB.out)
        rw [hD]
        by_cases h16 : 16 < D.length
        · have h16z : (16 : Int) < (D.length : Int) := by omega
          rw [if_pos h16] at HCD
          have HA : Hid (ansDf A B = []) := by show _ = _; unfold ansDf; rw [HCD.out, if_neg (by decide)]
          clear hD
          go_wp2_with fail
          go_ret2
          exact ⟨_, by rw [HCD.out]; rfl, by rw [HA.out]; exact KE.own_nil _ _, HBW.out⟩
        · have h16z : ¬ (16 : Int) < (D.length : Int) := by omega
          rw [if_neg h16] at HCD
          have HA : Hid (ansDf A B = D) := by show _ = _; unfold ansDf; rw [HCD.out, if_pos rfl, HDD.out]
          clear hD
          go_wp2_with fail
          go_ret2
          exact ⟨_, by rw [HCD.out]; rfl, by rw [HA.out]; exact own_weak HO.out HB3.out.size, HBW.out⟩

end Go.Proofs.YtelcongbnmfegabGreatDoor

/-
  The contracts of strings.IndexRune of a rune beyond ASCII, and of strings.IndexAny, both at the signs of edits.
-/
namespace Go.Proofs.YtelcongbnmfegabGreatDoor
open Go.RowKit Go.Lib Go.ChangeMaps

def signsA : ByteArray := ⟨#[58, 43, 45, 126, 61]⟩

theorem signs_k (c : UInt8) : signsA.data.toList.contains c = isK c := by
  rw [Bool.eq_iff_iff]
  constructor
  · intro h
    have : c ∈ signsA.data.toList := by simpa using h
    simp [signsA] at this
    rcases this with rfl | rfl | rfl | rfl | rfl <;> decide
  · intro h
    rcases kind_sign h with rfl | rfl | rfl | rfl | rfl <;> decide

/-- k is the place of the first sign in l, or -1. -/
def FirstK (l : List UInt8) (k : Int) : Prop := (k = -1 ∧ ∀ c ∈ l, isK c = false) ∨ ∃ i : Nat, k = i ∧ ∃ h : i < l.length, isK l[i] = true ∧ ∀ c ∈ l.take i, isK c = false

theorem indexAny_first : ∀ l : List UInt8, FirstK l (Lib.indexAny l signsA.data.toList)
  | [] => Or.inl ⟨rfl, fun c hc => by simp at hc⟩
  | b :: l => by
    have ih := indexAny_first l
    unfold Lib.indexAny
    rw [signs_k]
    cases hb : isK b with
    | true =>
      rw [if_pos rfl]
      exact Or.inr ⟨0, rfl, by simp, hb, fun c hc => by simp at hc⟩
    | false =>
      rw [if_neg (by simp)]
      rcases ih with ⟨h1, h2⟩ | ⟨i, h1, hi, h3, h4⟩
      · rw [h1]
        refine Or.inl ⟨rfl, fun c hc => ?_⟩
        rcases List.mem_cons.1 hc with rfl | hc
        · exact hb
        · exact h2 c hc
      · rw [h1]
        have : ((i : Int) == -1) = false := by simp
        rw [this, if_neg (by simp)]
        refine Or.inr ⟨i + 1, rfl, by simpa using hi, by simpa using h3, fun c hc => ?_⟩
        rw [List.take_succ_cons] at hc
        rcases List.mem_cons.1 hc with rfl | hc
        · exact hb
        · exact h4 c hc

theorem get_at (s : ByteArray) (i : Nat) (h : i < s.size) : s.get! i = s[i]'h := by
  simp [ByteArray.get!, getElem!_pos, h]
  rfl

/-- A rune beyond ASCII, as it is read. -/
theorem dec_high (s : ByteArray) (pos : Nat) (h : pos < s.size) (hb : 128 ≤ (s[pos]'h).toNat) :
    128 ≤ (Utf8.decode s pos).1 ∧ (Utf8.decode s pos).1 ≤ 2097151 ∧ 1 ≤ (Utf8.decode s pos).2 ∧ pos + (Utf8.decode s pos).2 ≤ s.size ∧ ∀ j, pos ≤ j → j < pos + (Utf8.decode s pos).2 → 128 ≤ (s.get! j).toNat := by
  have e0 : (s.get! (pos + 0)).toNat = (s[pos]'h).toNat := by rw [Nat.add_zero, get_at s pos h]
  have hlt : ∀ k, (s.get! (pos + k)).toNat < 256 := fun k => UInt8.toNat_lt _
  have hcont : ∀ k, (decide (pos + k < s.size) && (s.get! (pos + k)).toNat / 64 == 2) = true → pos + k < s.size ∧ 128 ≤ (s.get! (pos + k)).toNat := fun k hk => by
    rw [Bool.and_eq_true] at hk
    have h1 := of_decide_eq_true hk.1
    have h2 := beq_iff_eq.1 hk.2
    exact ⟨h1, by omega⟩
  have hp0 : 128 ≤ (s.get! pos).toNat := by rw [get_at s pos h]; exact hb
  have hone : ∀ j, pos ≤ j → j < pos + 1 → 128 ≤ (s.get! j).toNat := fun j h1 h2 => by
    have : j = pos := by omega
    subst this; exact hp0
  have herr : (128 ≤ Utf8.runeError) ∧ Utf8.runeError ≤ 2097151 := by decide
  unfold Utf8.decode
  simp only [e0]
  have h80 : ¬ (s[pos]'h).toNat < 128 := by omega
  rw [if_neg h80]
  have hbound : (s[pos]'h).toNat < 256 := UInt8.toNat_lt _
  have l1 := hlt 1
  have l2 := hlt 2
  have l3 := hlt 3
  split
  · rename_i h1
    rw [Bool.and_eq_true] at h1
    obtain ⟨c1, c2⟩ := hcont 1 h1.2
    split
    · rename_i h2
      refine ⟨h2, by omega, by omega, by omega, fun j g1 g2 => ?_⟩
      rcases (show j = pos ∨ j = pos + 1 by omega) with rfl | rfl
      · exact hp0
      · exact c2
    · exact ⟨herr.1, herr.2, by omega, by omega, hone⟩
  · split
    · rename_i h1
      rw [Bool.and_eq_true, Bool.and_eq_true] at h1
      obtain ⟨c1, c2⟩ := hcont 1 h1.1.2
      obtain ⟨d1, d2⟩ := hcont 2 h1.2
      split
      · rename_i h2
        rw [Bool.and_eq_true] at h2
        have h3 := of_decide_eq_true h2.1
        refine ⟨by omega, by omega, by omega, by omega, fun j g1 g2 => ?_⟩
        rcases (show j = pos ∨ j = pos + 1 ∨ j = pos + 2 by omega) with rfl | rfl | rfl
        · exact hp0
        · exact c2
        · exact d2
      · exact ⟨herr.1, herr.2, by omega, by omega, hone⟩
    · split
      · rename_i h1
        rw [Bool.and_eq_true, Bool.and_eq_true, Bool.and_eq_true] at h1
        obtain ⟨c1, c2⟩ := hcont 1 h1.1.1.2
        obtain ⟨d1, d2⟩ := hcont 2 h1.1.2
        obtain ⟨f1, f2⟩ := hcont 3 h1.2
        split
        · rename_i h2
          rw [Bool.and_eq_true] at h2
          have h3 := of_decide_eq_true h2.1
          refine ⟨by omega, by omega, by omega, by omega, fun j g1 g2 => ?_⟩
          rcases (show j = pos ∨ j = pos + 1 ∨ j = pos + 2 ∨ j = pos + 3 by omega) with rfl | rfl | rfl | rfl
          · exact hp0
          · exact c2
          · exact d2
          · exact f2
        · exact ⟨herr.1, herr.2, by omega, by omega, hone⟩
      · exact ⟨herr.1, herr.2, by omega, by omega, hone⟩

/-- The last byte of a rune beyond ASCII, as it is written. -/
theorem enc_last (r : Int) (h : 128 ≤ r) : ∃ m : Nat, 1 ≤ m ∧ m ≤ 3 ∧ ∃ hs : (Utf8.encode r).size = m + 1, 128 ≤ ((Utf8.encode r)[m]'(by omega)).toNat := by
  have hof : ∀ n : Nat, 128 ≤ n → n < 256 → 128 ≤ (UInt8.ofNat n).toNat := fun n h1 h2 => by
    rw [UInt8.toNat_ofNat_of_lt' (by simpa using h2)]; exact h1
  unfold Utf8.encode
  obtain ⟨c, hc⟩ : ∃ c, (if Utf8.valid r = true then r.toNat else Utf8.runeError) = c := ⟨_, rfl⟩
  have hc128 : 128 ≤ c := by
    rw [← hc]
    split
    · omega
    · decide
  simp only [hc]
  have h0 : ¬ c < 128 := by omega
  simp only [if_neg h0]
  by_cases h1 : c < 2048
  · simp only [if_pos h1]
    exact ⟨1, by omega, by omega, rfl, hof _ (by omega) (by omega)⟩
  · simp only [if_neg h1]
    by_cases h2 : c < 65536
    · simp only [if_pos h2]
      exact ⟨2, by omega, by omega, rfl, hof _ (by omega) (by omega)⟩
    · simp only [if_neg h2]
      exact ⟨3, by omega, by omega, rfl, hof _ (by omega) (by omega)⟩

/-- What Op.next does, wherever the iterator lies. -/
theorem run_next_at (W : World) (N : Nat) (s : ByteArray) (pos : Nat) (ty : TypeId) (hN : W.heap[N]? = some (.stringIter s pos)) (h : pos < s.size) :
    (Instr.next (.pointer (some ⟨N, 0, none⟩)) true ty).run Tryz.prog W =
      .ok (.tuple #[.bool true, .int .i64 pos, .int .i32 (Utf8.decode s pos).1]) (setBlock W N (.stringIter s (pos + (Utf8.decode s pos).2))) := by
  have hlt := (Array.getElem?_eq_some_iff.1 hN).1
  simp [Instr.next, getObj, setObj, Sem.run, hN, h, goInt, Result.andThen, setBlock]

theorem run_next_stop (W : World) (N : Nat) (s : ByteArray) (pos : Nat) (ty : TypeId) (hN : W.heap[N]? = some (.stringIter s pos)) (h : ¬ pos < s.size) :
    (Instr.next (.pointer (some ⟨N, 0, none⟩)) true ty).run Tryz.prog W = .ok (.tuple #[.bool false]) W := by
  simp [Instr.next, getObj, Sem.run, hN, h, Result.andThen]

theorem signs_low (x : UInt8) (h : x ∈ (⟨#[58, 43, 45, 126, 61]⟩ : ByteArray).data.toList) : x.toNat < 128 := by
  simp at h
  rcases h with rfl | rfl | rfl | rfl | rfl <;> decide

set_option maxHeartbeats 4000000 in
set_option maxRecDepth 100000 in
theorem ixrune_err (w : World) :
    Calls Tryz.prog 84 #[.string ⟨#[58, 43, 45, 126, 61]⟩, .int .i32 65533] w fun e w' => e = .returned (.int .i64 (-1)) ∧ Grown w w' := by
  obtain ⟨s, hs⟩ : ∃ s : ByteArray, ⟨#[58, 43, 45, 126, 61]⟩ = s := ⟨_, rfl⟩
  have h7 : s.size = 5 := by rw [← hs]; rfl
  have hlow : ∀ (i : Nat) (h : i < s.size), (s[i]'h).toNat < 128 := by
    subst hs
    intro i h
    exact signs_low _ (List.getElem_mem (l := (⟨#[58, 43, 45, 126, 61]⟩ : ByteArray).data.toList) (n := i) h)
  rw [hs]
  clear hs
  go_enter Tryz.func84, Tryz.ntmps84
  go_wp2_with fail
  go_loopg [5, 6] 5 (fun g _ _ wx => ∃ i : Nat, i + g = 5 ∧ wx = w.iter s i)
  case atStart => exact ⟨0, by omega, rfl⟩
  case round =>
    obtain ⟨i, hig, rfl⟩ := hrel
    cases gk with
    | zero =>
      have hnx := fun ty => run_next_end (P := Tryz.prog) w s i ty (by omega)
      go_wp2_with fail
      go_ret
      exact ⟨rfl, (Grown.refl _).alloc _⟩
    | succ g =>
      have hi : i < s.size := by omega
      have hx := hlow i hi
      have hnx := fun ty => run_next_ascii (P := Tryz.prog) w s i ty hi hx
      have hne : (((s[i]'hi).toNat : Int) == 65533) = false := by simp; omega
      clear hlow
      go_wp2_with fail
      go_roundg g
      case measure => omega
      case rel => exact ⟨i + 1, by omega, rfl⟩

set_option maxHeartbeats 4000000 in
set_option maxRecDepth 100000 in
theorem ixrune_valid (r : Int) (h1 : 128 ≤ r) (h2 : r ≤ 2097151) (hv : Lib.validRune r = true) (hne : r ≠ 65533) (w : World) :
    Calls Tryz.prog 84 #[.string ⟨#[58, 43, 45, 126, 61]⟩, .int .i32 r] w fun e w' => e = .returned (.int .i64 (-1)) ∧ Grown w w' := by
  obtain ⟨m, hm1, hm3, hs, hb⟩ := enc_last r h1
  obtain ⟨pat, hpat⟩ : ∃ pat, Utf8.encode r = pat := ⟨_, rfl⟩
  simp only [hpat] at hs hb
  obtain ⟨b, hbe⟩ : ∃ b, pat[m]'(by omega) = b := ⟨_, rfl⟩
  rw [hbe] at hb
  have hz : (0 : Int) ≤ r := by omega
  have h128 : decide (r < 128) = false := decide_eq_false (by omega)
  have hne' : (r == 65533) = false := by simpa using hne
  have HV := hid hv
  obtain ⟨s, hse⟩ : ∃ s : ByteArray, ⟨#[58, 43, 45, 126, 61]⟩ = s := ⟨_, rfl⟩
  have h7 : s.size = 5 := by rw [← hse]; rfl
  have hlow : ∀ x ∈ s.data.toList, x.toNat < 128 := by subst hse; exact signs_low
  rw [hse]
  clear hv hne hse
  have hback : ((b.toNat : Int)).toNat.toUInt8 = b := by simp
  have HIX : Hid (∀ W k, Calls Tryz.prog 56 #[.string (s.extract k s.size), .int .u8 b.toNat] W fun e w' => e = .returned (.int .i64 (-1)) ∧ w' = W) := fun W k => by
    have := Tryz.strings_IndexByte (s.extract k s.size) b.toNat W
    rw [hback, ix_none (fun hc => by
      have hm : b ∈ s.data.toList := by
        have e : (s.extract k s.size).data.toList = s.data.toList.drop k := by
          have := ext_drop s k
          exact this
        rw [e] at hc
        exact List.mem_of_mem_drop hc
      have := hlow b hm
      omega)] at this
    exact this
  have hsm : m < s.size := by omega
  obtain ⟨c, hce⟩ : ∃ c, s[m]'hsm = c := ⟨_, rfl⟩
  have hc : c.toNat < 128 := by
    rw [← hce]
    exact hlow _ (List.getElem_mem (l := s.data.toList) (n := m) (by simpa using hsm))
  have hx : ((c.toNat : Int) != (b.toNat : Int)) = true := by simp; omega
  have hmz : (0 : Int) ≤ m := by omega
  have hms : (m : Int) < (s.size : Int) := by omega
  have hmp : (m : Int) < (pat.size : Int) := by omega
  have hpz : (pat.size : Int) - 1 = (m : Int) := by omega
  have hww : IntKind.i64.wrap ((m : Int) + 1) = (m : Int) + 1 := wrap_i64E _ (by omega) (by omega)
  have hm1s : (m : Int) + 1 ≤ (s.size : Int) := by omega
  have hm0z : (0 : Int) ≤ (m : Int) + 1 := by omega
  have hmt : ((m : Int) + 1).toNat = m + 1 := by omega
  have hmp2 : m < pat.size := by omega
  have hbe2 : pat[m]'hmp2 = b := hbe
  clear hbe
  clear h7 hs
  clear hlow
  go_enter Tryz.func84, Tryz.ntmps84
  go_wp2_with (first | (go_at_call 111; refine (Tryz.utf8_ValidRune _ _).mono ?_; rintro e w1 ⟨rfl, rfl⟩; rw [HV.out]))
  go_step3
  go_wp2_with fail
  refine wp_loop_rounds 1 ?_
  rw [rounds_succ]
  go_wp2_with fail
  go_step3
  go_wp2_with fail
  go_quiet (fail)
  go_wp2_with fail
  have hG2 := Grown.draws w1 nq
  generalize w1.drewN nq = W2 at hG2 ⊢
  go_quiet (first | (go_at_call 56; refine Calls.quiet_of_same (HIX.out _ _)))
  go_wp2_with fail
  repeat (first | rw [Exit.noGoto_ret] | simp only [Exit.inBlock, Exit.then])
  go_ret
  exact ⟨rfl, hG2.drewN _⟩

set_option maxHeartbeats 2000000 in
set_option maxRecDepth 100000 in
theorem ixrune_none (r : Int) (h1 : 128 ≤ r) (h2 : r ≤ 2097151) (w : World) :
    Calls Tryz.prog 84 #[.string ⟨#[58, 43, 45, 126, 61]⟩, .int .i32 r] w fun e w' => e = .returned (.int .i64 (-1)) ∧ Grown w w' := by
  by_cases hne : r = 65533
  · subst hne; exact ixrune_err w
  · cases hv : Lib.validRune r with
    | true => exact ixrune_valid r h1 h2 hv hne w
    | false =>
      have h128 : decide (r < 128) = false := decide_eq_false (by omega)
      have hz : (0 : Int) ≤ r := by omega
      have hne' : (r == 65533) = false := by simpa using hne
      have HV := hid hv
      clear hv hne
      go_enter Tryz.func84, Tryz.ntmps84
      go_wp2_with (first | (go_at_call 111; refine (Tryz.utf8_ValidRune _ _).mono ?_; rintro e w1 ⟨rfl, rfl⟩; rw [HV.out]))
      repeat (first | rw [Exit.noGoto_ret] | simp only [Exit.inBlock, Exit.then])
      go_ret
      exact ⟨rfl, Grown.refl _⟩

/-- The iterator of s stands at pos, in block N. -/
def ItAt (W : World) (N : Nat) (s : ByteArray) (pos : Nat) : Prop := W.heap[N]? = some (.stringIter s pos)

theorem it_step {w W : World} {s : ByteArray} {pos : Nat} (h : ItAt W w.heap.size s pos) (hb : Below w.heap.size w W) (p' : Nat) :
    ItAt (setBlock W w.heap.size (.stringIter s p')) w.heap.size s p' ∧ Below w.heap.size w (setBlock W w.heap.size (.stringIter s p')) := by
  have hlt := (Array.getElem?_eq_some_iff.1 h).1
  refine ⟨by unfold ItAt setBlock; simp [hlt], hb.os, hb.tape, hb.output, by simpa [setBlock] using hb.size, fun k hk => ?_⟩
  refine Eq.trans ?_ (hb.block k hk)
  show (W.heap.setIfInBounds w.heap.size _)[k]? = _
  rw [Array.getElem?_setIfInBounds, if_neg (by omega)]

set_option maxHeartbeats 4000000 in
set_option maxRecDepth 100000 in
theorem ixany_short (s : ByteArray) (w : World) (h8 : s.size ≤ 8) :
    Calls Tryz.prog 55 #[.string s, .string ⟨#[58, 43, 45, 126, 61]⟩] w fun e w' => (∃ k, e = .returned (.int .i64 k) ∧ FirstK s.data.toList k) ∧ Below w.heap.size w w' := by
  have h8z : decide ((8 : Int) < (s.size : Int)) = false := decide_eq_false (by omega)
  obtain ⟨cs, hcs⟩ : ∃ cs : ByteArray, ⟨#[58, 43, 45, 126, 61]⟩ = cs := ⟨_, rfl⟩
  have HCS := hid hcs
  have hemp : cs.toList.isEmpty = false := sfull_of (by rw [← hcs]; decide)
  have hn1 : ((cs.size : Int) == 1) = false := by rw [← hcs]; rfl
  rw [hcs]
  clear hcs
  go_enter Tryz.func55, Tryz.ntmps55
  go_wp2_with (go_at_call 85; refine (Tryz.strings_shouldUseASCIISet _ _).mono ?_; rintro e w' ⟨rfl, hw⟩; rw [hw, h8z])
  go_loopg [9, 10] s.size (fun g _ _ wx => ∃ i : Nat, i ≤ s.size ∧ s.size - i ≤ g ∧ Hid (ItAt wx w.heap.size s i) ∧ Hid (Below w.heap.size w wx) ∧ Hid (∀ c ∈ s.data.toList.take i, isK c = false))
  case atStart => exact ⟨0, by omega, by omega, World.iter_heap _ _ _, (Below.refl _ _).alloc (Nat.le_refl _) _, fun c hc => by simp at hc⟩
  case round =>
    obtain ⟨i, hi, hg, HI, HB, HN⟩ := hrel
    by_cases hlt : i < s.size
    · have hil : i < s.data.toList.length := by simpa using hlt
      have hnx := fun ty => run_next_at wr w.heap.size s i ty HI.out hlt
      obtain ⟨x, hx⟩ : ∃ x : UInt8, s[i]'hlt = x := ⟨_, rfl⟩
      have hxl : s.data.toList[i] = x := hx
      by_cases hx128 : x.toNat < 128
      · have hdec := decode_ascii s i hlt (by rw [hx]; exact hx128)
        rw [hx] at hdec
        rw [hdec] at hnx
        obtain ⟨hi2, hb2⟩ := it_step HI.out HB.out (i + 1)
        simp only at hnx
        obtain ⟨W1, hW1⟩ : ∃ W1, setBlock wr w.heap.size (.stringIter s (i + 1)) = W1 := ⟨_, rfl⟩
        rw [hW1] at hnx hi2 hb2
        have HI2 := hid hi2
        have HB2 := hid hb2
        have HXL := hid hxl
        have hback : ((x.toNat : Int)).toNat.toUInt8 = x := by simp
        have hcon := Lib.contains_iff_indexByte cs.data.toList x
        have e1 : cs.data.toList.contains x = isK x := by rw [← HCS.out]; exact signs_k x
        rw [e1] at hcon
        cases hop : isK x with
        | true =>
          rw [hop] at hcon
          have hge : (0 : Int) ≤ Lib.indexByte cs.data.toList x := of_decide_eq_true hcon.symm
          have HF : Hid (FirstK s.data.toList (i : Int)) := Or.inr ⟨i, rfl, hil, by rw [hxl]; exact hop, HN.out⟩
          clear hcon e1 hxl hx hW1 hi2 hb2 hdec hop
          go_wp2_with (go_at_call 84; refine (Tryz.strings_IndexRune_ascii _ _ _ (by omega) (by omega)).mono ?_; rintro e w' ⟨rfl, hw⟩; rw [hw, hback])
          go_ret
          exact ⟨⟨_, rfl, HF.out⟩, HB2.out⟩
        | false =>
          rw [hop] at hcon
          have hge : ¬ ((0 : Int) ≤ Lib.indexByte cs.data.toList x) := of_decide_eq_false hcon.symm
          have HF : Hid (∀ c ∈ s.data.toList.take (i + 1), isK c = false) := fun c hc => by
            rw [List.take_succ_eq_append_getElem hil, List.mem_append, List.mem_singleton] at hc
            rcases hc with hc | hc
            · exact HN.out c hc
            · rw [hc, hxl]; exact hop
          clear hcon e1 hxl hx hW1 hi2 hb2 hdec hop
          go_wp2_with (go_at_call 84; refine (Tryz.strings_IndexRune_ascii _ _ _ (by omega) (by omega)).mono ?_; rintro e w' ⟨rfl, hw⟩; rw [hw, hback])
          go_roundg (s.size - (i + 1))
          case measure => omega
          case rel => exact ⟨i + 1, by omega, by omega, HI2, HB2, HF⟩
      · obtain ⟨r1, r2, r3, r4, r5⟩ := dec_high s i hlt (by rw [hx]; omega)
        obtain ⟨hi2, hb2⟩ := it_step HI.out HB.out (i + (Utf8.decode s i).2)
        obtain ⟨r, hr⟩ : ∃ r, (Utf8.decode s i).1 = r := ⟨_, rfl⟩
        obtain ⟨k, hk⟩ : ∃ k, (Utf8.decode s i).2 = k := ⟨_, rfl⟩
        rw [hr, hk] at hnx
        rw [hr] at r1 r2
        rw [hk] at r3 r4 r5 hi2 hb2
        obtain ⟨W1, hW1⟩ : ∃ W1, setBlock wr w.heap.size (.stringIter s (i + k)) = W1 := ⟨_, rfl⟩
        rw [hW1] at hnx hi2 hb2
        have HF : Hid (∀ c ∈ s.data.toList.take (i + k), isK c = false) := fun c hc => by
          obtain ⟨j, hj, rfl⟩ := List.mem_iff_getElem.1 hc
          rw [List.length_take] at hj
          rw [List.getElem_take]
          by_cases hji : j < i
          · exact HN.out _ (List.mem_iff_getElem.2 ⟨j, by rw [List.length_take]; omega, by rw [List.getElem_take]⟩)
          · have hjs : j < s.size := by have := hj; simp at this; omega
            have h128 := r5 j (by omega) (by omega)
            rw [get_at s j hjs] at h128
            have e : s.data.toList[j]'(by simpa using hjs) = s[j]'hjs := rfl
            rw [e]
            cases hop : isK (s[j]'hjs) with
            | false => rfl
            | true => rcases kind_sign hop with h | h | h | h | h <;> (rw [h] at h128; exact absurd h128 (by decide))
        have HIR : Hid (Calls Tryz.prog 84 #[.string cs, .int .i32 r] W1 fun e w' => e = .returned (.int .i64 (-1)) ∧ Grown W1 w') := by
          show Calls _ _ _ _ _
          rw [← HCS.out]
          exact ixrune_none r (by omega) (by omega) W1
        have HI2 := hid hi2
        have HB2 := hid hb2
        clear hxl hx hW1 hi2 hb2 hr hk r5
        go_wp2_with (go_at_call 84; refine HIR.out.mono ?_; rintro e w2 ⟨rfl, hg2⟩)
        go_roundg (s.size - (i + k))
        case measure => omega
        case rel => exact ⟨i + k, by omega, by omega, (hg2.below.block _ (Array.getElem?_eq_some_iff.1 HI2.out).1).trans HI2.out, bel_then HB2.out HB2.out.size hg2.below, HF⟩
    · have hi' : i = s.size := by omega
      have hnx := fun ty => run_next_stop wr w.heap.size s i ty HI.out hlt
      have HF : Hid (FirstK s.data.toList (-1)) := Or.inl ⟨rfl, fun c hc => HN.out c (by rw [List.take_of_length_le (by simp; omega)]; exact hc)⟩
      go_wp2_with fail
      go_ret
      exact ⟨⟨_, rfl, HF.out⟩, HB.out⟩

theorem ixany_any (s : ByteArray) (w : World) (hs : s.size ≤ 4294967000) :
    Calls Tryz.prog 55 #[.string s, .string ⟨#[58, 43, 45, 126, 61]⟩] w fun e w' => (∃ k, e = .returned (.int .i64 k) ∧ FirstK s.data.toList k) ∧ Below w.heap.size w w' := by
  by_cases h8 : s.size ≤ 8
  · exact ixany_short s w h8
  · refine (Tryz.strings_IndexAny_long (fun _ => by kernel_rfl) s ⟨#[58, 43, 45, 126, 61]⟩ w (by decide) (by omega) (by omega) (by decide) (fun j b hb => signs_low b (List.mem_of_getElem? hb))).mono ?_
    rintro e w' ⟨rfl, rfl⟩
    exact ⟨⟨_, rfl, indexAny_first _⟩, ((Below.refl _ _).alloc (Nat.le_refl _) _).alloc (by simp) _⟩

end Go.Proofs.YtelcongbnmfegabGreatDoor

/-
  The contract of read: what a word says.
-/
namespace Go.Proofs.YtelcongbnmfegabGreatDoor
open Go.RowKit Go.Lib

theorem ix_signK {c : UInt8} (h : isK c = true) : Lib.indexByte (⟨#[58, 43, 45, 126, 61]⟩ : ByteArray).data.toList c = kindN (c.toNat : Int) - 1 := by
  rcases kind_sign h with rfl | rfl | rfl | rfl | rfl <;> decide

theorem k_pos {c : UInt8} (h : isK c = true) : 1 ≤ kindN (c.toNat : Int) ∧ kindN (c.toNat : Int) ≤ 5 := by
  rcases kind_sign h with rfl | rfl | rfl | rfl | rfl <;> decide

/-- What a word with a sign says. -/
theorem editO_at {l : List UInt8} {i : Nat} (hi : i < l.length) (h1 : isK l[i] = true) (h2 : ∀ c ∈ l.take i, isK c = false) :
    editO l = if kindN (l[i].toNat : Int) = 4 then (if l.drop (i + 1) = [] then some (4, ⟨(l.take i).toArray⟩, ⟨#[]⟩) else none)
      else if Lib.hasPrefix (l.drop (i + 1)) [61] = true then (match readL ((l.drop (i + 1)).drop 1) with
        | none => none
        | some t => some (kindN (l[i].toNat : Int), ⟨(l.take i).toArray⟩, ⟨t.toArray⟩)) else none := by
  obtain ⟨e1, e2⟩ := k_split hi h2 h1
  unfold editO
  rw [e2]
  simp only
  rw [e1]
  by_cases h4 : kindN (l[i].toNat : Int) = 4
  · rw [if_pos h4, if_pos h4]
  · rw [if_neg h4, if_neg h4]
    cases l.drop (i + 1) with
    | nil => rfl
    | cons d r =>
      simp only [List.drop_succ_cons, List.drop_zero]
      by_cases hd : d = 61
      · subst hd
        rw [if_pos rfl, if_pos (by rfl)]
        cases readL r <;> rfl
      · rw [if_neg hd, if_neg]
        intro h
        simp [Lib.hasPrefix] at h
        exact hd h.symm

theorem FirstK.uniq {l : List UInt8} {a b : Int} (ha : FirstK l a) (hb : FirstK l b) : a = b := by
  rcases ha with ⟨rfl, h1⟩ | ⟨i, rfl, hi, h1, h2⟩
  · rcases hb with ⟨rfl, _⟩ | ⟨j, rfl, hj, h3, _⟩
    · rfl
    · rw [h1 _ (List.getElem_mem hj)] at h3; cases h3
  · rcases hb with ⟨rfl, h3⟩ | ⟨j, rfl, hj, h3, h4⟩
    · rw [h3 _ (List.getElem_mem hi)] at h1; cases h1
    · rcases Nat.lt_trichotomy i j with h | h | h
      · rw [h4 _ (List.mem_iff_getElem.2 ⟨i, by rw [List.length_take]; omega, by rw [List.getElem_take]⟩)] at h1; cases h1
      · rw [h]
      · rw [h2 _ (List.mem_iff_getElem.2 ⟨j, by rw [List.length_take]; omega, by rw [List.getElem_take]⟩)] at h3; cases h3

theorem ixanyK_at {s : ByteArray} {k : Int} (h : FirstK s.data.toList k) (w : World) (hs : s.size ≤ 4294967000) :
    Calls Tryz.prog 55 #[.string s, .string ⟨#[58, 43, 45, 126, 61]⟩] w fun e w' => e = .returned (.int .i64 k) ∧ Below w.heap.size w w' :=
  (ixany_any s w hs).mono fun _ _ ⟨⟨k', h1, h2⟩, h3⟩ => ⟨by rw [h1, h.uniq h2], h3⟩

/-- What read answers. -/
def editV (o : Option Ed) : Value := match o with
  | none => .tuple #[.agg #[.int .i64 0, .string ⟨#[]⟩, .string ⟨#[]⟩], .int .i64 4]
  | some x => .tuple #[.agg #[.int .i64 x.1, .string x.2.1, .string x.2.2], .int .i64 0]

set_option maxHeartbeats 4000000 in
set_option maxRecDepth 100000 in
theorem read_none (s : ByteArray) (w : World) (hs : s.size ≤ 4294967000) (hk : ∀ c ∈ s.data.toList, isK c = false) :
    Calls Tryz.prog 27 #[.string s] w fun e w' => e = .returned (.tuple #[.agg #[.int .i64 0, .string ⟨#[]⟩, .string ⟨#[]⟩], .int .i64 4]) ∧ Below w.heap.size w w' := by
  obtain ⟨W0, hW0⟩ : ∃ W0, w.alloc (.cells #[.int .i64 0, .string ⟨#[]⟩, .string ⟨#[]⟩] 24) = W0 := ⟨_, rfl⟩
  obtain ⟨R, hR⟩ : ∃ R, w.heap.size = R := ⟨_, rfl⟩
  have hb0 : Below R w W0 := by rw [← hW0, ← hR]; exact (Below.refl _ _).alloc (Nat.le_refl _) _
  have hx0 : BoxE W0 R (0, ⟨#[]⟩, ⟨#[]⟩) := by rw [← hW0, ← hR]; exact boxE_new w (0, ⟨#[]⟩, ⟨#[]⟩)
  have hRl : R < W0.heap.size := hx0.lt
  have HB0 := hid hb0
  have HX0 := hid hx0
  rw [hR]
  have HX := hid (ixanyK_at (Or.inl ⟨rfl, hk⟩) W0 hs)
  clear hb0 hx0 hk
  go_enter Tryz.func27, Tryz.ntmps27
  go_wp2_with fail
  refine HX.out.mono ?_
  rintro e w1 ⟨rfl, hb1⟩
  have hx1 := HX0.out.on hb1
  obtain ⟨k0, k1, k2⟩ := hx1.cells
  obtain ⟨f0, f1, f2⟩ := boxE_free hx1
  simp only at k0 k1 k2
  have HX1 := hid hx1
  have HB1 := hid (show Below R w w1 from HB0.out.trans (hb1.mono (Nat.le_of_lt hRl)))
  clear hx1 hb1
  go_wp2_with fail
  obtain ⟨j0, j1, j2⟩ := (boxE_put HX1.out (0, ⟨#[]⟩, ⟨#[]⟩)).cells
  simp only at j0 j1 j2
  exact bodyPost_ret (v := .tuple #[.agg #[.int .i64 0, .string ⟨#[]⟩, .string ⟨#[]⟩], .int .i64 4]) (by simp [results, Tryz.results27, go_sem, j0, j1, j2]) rfl ⟨rfl, belE_put HB1.out (Nat.le_refl _) (0, ⟨#[]⟩, ⟨#[]⟩)⟩

set_option maxHeartbeats 4000000 in
set_option maxRecDepth 100000 in
theorem read_sign (s : ByteArray) (w : World) (hp : PlainAt w) (hs : s.size ≤ 4294967000) (i : Nat) (hi : i < s.data.toList.length) (h1 : isK s.data.toList[i] = true) (h2 : ∀ c ∈ s.data.toList.take i, isK c = false) :
    Calls Tryz.prog 27 #[.string s] w fun e w' => e = .returned (editV (editO s.data.toList)) ∧ Below w.heap.size w w' := by
  obtain ⟨W0, hW0⟩ : ∃ W0, w.alloc (.cells #[.int .i64 0, .string ⟨#[]⟩, .string ⟨#[]⟩] 24) = W0 := ⟨_, rfl⟩
  obtain ⟨R, hR⟩ : ∃ R, w.heap.size = R := ⟨_, rfl⟩
  have hb0 : Below R w W0 := by rw [← hW0, ← hR]; exact (Below.refl _ _).alloc (Nat.le_refl _) _
  have hx0 : BoxE W0 R (0, ⟨#[]⟩, ⟨#[]⟩) := by rw [← hW0, ← hR]; exact boxE_new w (0, ⟨#[]⟩, ⟨#[]⟩)
  have hRl : R < W0.heap.size := hx0.lt
  have HP := hid (show PlainAt W0 from hp.on (by rw [hR]; exact hb0))
  have HB0 := hid hb0
  have HX0 := hid hx0
  obtain ⟨V, hV⟩ : ∃ V, editV (editO s.data.toList) = V := ⟨_, rfl⟩
  rw [hV]
  have HX := hid (ixanyK_at (Or.inr ⟨i, rfl, hi, h1, h2⟩) W0 hs)
  rw [editO_at hi h1 h2] at hV
  have his : i < s.size := by simpa using hi
  obtain ⟨c, hc⟩ : ∃ c, s[i]'his = c := ⟨_, rfl⟩
  have hcl : s.data.toList[i] = c := hc
  rw [hcl] at h1 hV
  have hix := ix_signK h1
  obtain ⟨o1, o2⟩ := k_pos h1
  obtain ⟨o, ho⟩ : ∃ o, kindN (c.toNat : Int) = o := ⟨_, rfl⟩
  rw [ho] at hix o1 o2 hV
  have hback : ((c.toNat : Int)).toNat.toUInt8 = c := by simp
  have HIX : Hid (∀ W, Calls Tryz.prog 56 #[.string ⟨#[58, 43, 45, 126, 61]⟩, .int .u8 c.toNat] W fun e w' => e = .returned (.int .i64 (o - 1)) ∧ W = w') := fun W => by
    have := Tryz.strings_IndexByte ⟨#[58, 43, 45, 126, 61]⟩ c.toNat W
    rw [hback, hix] at this
    exact this.mono fun e w' h => ⟨h.1, h.2.symm⟩
  have hw1 : IntKind.i64.wrap (1 + (o - 1)) = o := by rw [show 1 + (o - 1) = o by omega]; exact wrap_i64E _ (by omega) (by omega)
  have hiz : (0 : Int) ≤ i := by omega
  have hiz2 : (i : Int) < (s.size : Int) := by omega
  have hiz3 : (i : Int) + 1 ≤ (s.size : Int) := by omega
  have hiz4 : (0 : Int) ≤ (i : Int) + 1 := by omega
  have hiz5 : (i : Int) ≤ (s.size : Int) := by omega
  have hit : ((i : Int) + 1).toNat = i + 1 := by omega
  have hnn : ¬ ((i : Int) < 0) := by omega
  have HE := hid (ext_take s i)
  have HV := hid hV
  rw [hR]
  clear hp hb0 hx0 hcl hix ho hi h2 h1 hV
  go_enter Tryz.func27, Tryz.ntmps27
  go_wp2_with fail
  refine HX.out.mono ?_
  rintro e w1 ⟨rfl, hb1⟩
  have HB1 := hid hb1
  clear hb1
  go_wp2_with fail
  refine wp_region_held_drew (S := fun _ => True) (by kernel_rfl) trivial (fun hHeld => ?_)
  refine take_val (i := 0) (.string s) rfl (by kernel_rfl) (by kernel_rfl) (by kernel_rfl) (fun _ _ _ h => h) (by rfl) (fun w hSw => by go_simp) hHeld ?_
  simp only [Act.put, List.setIfInBounds_toArray, List.set_cons_zero, List.set_cons_succ]
  refine take_val (i := 1) (.int .i64 i) rfl (by kernel_rfl) (by kernel_rfl) (by kernel_rfl) (fun _ _ _ h => h) (by rfl) (fun w hSw => by go_simp) hHeld ?_
  simp only [Act.put, List.setIfInBounds_toArray, List.set_cons_zero, List.set_cons_succ]
  refine take_val (i := 2) (.int .u8 c.toNat) rfl (by kernel_rfl) (by kernel_rfl) (by kernel_rfl) (fun _ _ _ h => h) (by rfl) (fun w hSw => by go_simp) hHeld ?_
  simp only [Act.put, List.setIfInBounds_toArray, List.set_cons_zero, List.set_cons_succ]
  refine take_val (i := 5) (.string s) rfl (by kernel_rfl) (by kernel_rfl) (by kernel_rfl) (fun _ _ _ h => h) (by rfl) (fun w hSw => by go_simp) hHeld ?_
  simp only [Act.put, List.setIfInBounds_toArray, List.set_cons_zero, List.set_cons_succ]
  refine take_val (i := 6) (.int .i64 i) rfl (by kernel_rfl) (by kernel_rfl) (by kernel_rfl) (fun _ _ _ h => h) (by rfl) (fun w hSw => by go_simp) hHeld ?_
  simp only [Act.put, List.setIfInBounds_toArray, List.set_cons_zero, List.set_cons_succ]
  refine take_val (i := 7) (.string (s.extract 0 i)) rfl (by kernel_rfl) (by kernel_rfl) (by kernel_rfl) (fun _ _ _ h => h) (by rfl) (fun w hSw => by go_simp) hHeld ?_
  simp only [Act.put, List.setIfInBounds_toArray, List.set_cons_zero, List.set_cons_succ]
  refine wpAnyH_ready (rs := [3, 9]) (by kernel_rfl) (by simp) ?_
  refine AllReadyH.cons (at_drop0 rfl) (fun K hK => ?_) (AllReadyH.cons (at_drop0 rfl) (fun K hK => ?_) AllReadyH.nil)
  case' refine_1 =>
    rw [if_pos (by rfl)]
    go_simp
    refine (HIX.out _).mono ?_
    rintro e w2 ⟨rfl, rfl⟩
    go_wp2_with fail
    refine hK.out _ _ trivial (fun hHeld => ?_)
    clear hK K
    try simp only [Act.put, List.setIfInBounds_toArray, List.set_cons_zero, List.set_cons_succ]
    refine take_val (i := 4) (.int .i64 o) rfl (by kernel_rfl) (by kernel_rfl) (by kernel_rfl) (fun _ _ _ h => h) (by rfl) (fun w hSw => by go_simp) hHeld ?_
    simp only [Act.put, List.setIfInBounds_toArray, List.set_cons_zero, List.set_cons_succ]
    refine take_val (i := 8) (.agg #[.int .i64 o, .string (s.extract 0 i), .string ⟨#[]⟩]) rfl (by kernel_rfl) (by kernel_rfl) (by kernel_rfl) (fun _ _ _ h => h) (by rfl) (fun w hSw => by go_simp) hHeld ?_
    simp only [Act.put, List.setIfInBounds_toArray, List.set_cons_zero, List.set_cons_succ]
    refine wpAnyH_ready (rs := [9]) (by kernel_rfl) (by simp) ?_
    refine AllReadyH.cons (at_drop0 rfl) (fun K hK => ?_) AllReadyH.nil
    rw [if_pos (by rfl)]
    go_simp
    refine hK.out _ _ trivial (fun hHeld => ?_)
    clear hK K
    try simp only [Act.put, List.setIfInBounds_toArray, List.set_cons_zero, List.set_cons_succ]
    refine wpAnyH_ready (rs := [10]) (by kernel_rfl) (by simp) ?_
    refine AllReadyH.cons (at_drop0 rfl) (fun K hK => ?_) AllReadyH.nil
    rw [if_pos (by rfl)]
    go_simp
    refine hK.out _ _ trivial (fun hHeld => ?_)
    clear hK K
    try simp only [Act.put, List.setIfInBounds_toArray, List.set_cons_zero, List.set_cons_succ]
    refine wpAnyH_done (by kernel_rfl) ?_ _
  case' refine_2 =>
    rw [if_pos (by rfl)]
    go_simp
    refine hK.out _ _ trivial (fun hHeld => ?_)
    clear hK K
    try simp only [Act.put, List.setIfInBounds_toArray, List.set_cons_zero, List.set_cons_succ]
    refine wpAnyH_ready (rs := [3]) (by kernel_rfl) (by simp) ?_
    refine AllReadyH.cons (at_drop0 rfl) (fun K hK => ?_) AllReadyH.nil
    rw [if_pos (by rfl)]
    go_simp
    refine (HIX.out _).mono ?_
    rintro e w2 ⟨rfl, rfl⟩
    go_wp2_with fail
    refine hK.out _ _ trivial (fun hHeld => ?_)
    clear hK K
    try simp only [Act.put, List.setIfInBounds_toArray, List.set_cons_zero, List.set_cons_succ]
    refine take_val (i := 4) (.int .i64 o) rfl (by kernel_rfl) (by kernel_rfl) (by kernel_rfl) (fun _ _ _ h => h) (by rfl) (fun w hSw => by go_simp) hHeld ?_
    simp only [Act.put, List.setIfInBounds_toArray, List.set_cons_zero, List.set_cons_succ]
    refine take_val (i := 8) (.agg #[.int .i64 o, .string (s.extract 0 i), .string ⟨#[]⟩]) rfl (by kernel_rfl) (by kernel_rfl) (by kernel_rfl) (fun _ _ _ h => h) (by rfl) (fun w hSw => by go_simp) hHeld ?_
    simp only [Act.put, List.setIfInBounds_toArray, List.set_cons_zero, List.set_cons_succ]
    refine wpAnyH_ready (rs := [10]) (by kernel_rfl) (by simp) ?_
    refine AllReadyH.cons (at_drop0 rfl) (fun K hK => ?_) AllReadyH.nil
    rw [if_pos (by rfl)]
    go_simp
    refine hK.out _ _ trivial (fun hHeld => ?_)
    clear hK K
    try simp only [Act.put, List.setIfInBounds_toArray, List.set_cons_zero, List.set_cons_succ]
    refine wpAnyH_done (by kernel_rfl) ?_ _
  all_goals
    clear HIX HX
    obtain ⟨E, hE⟩ : ∃ E, w1.heap.size = E := ⟨_, rfl⟩
    have hsz1 := HB1.out.size
    have hRE : R ≠ E := by omega
    have hER : E ≠ R := by omega
    have HBW : Hid (Below W0.heap.size W0 (w1.alloc (.cells #[.int .i64 o, .string (s.extract 0 i), .string ⟨#[]⟩] 24)).drew) := (HB1.out.alloc hsz1 _).drew
    have HEB : Hid (BoxE (w1.alloc (.cells #[.int .i64 o, .string (s.extract 0 i), .string ⟨#[]⟩] 24)).drew E (o, s.extract 0 i, ⟨#[]⟩)) := by rw [← hE]; exact boxE_new w1 (o, s.extract 0 i, ⟨#[]⟩)
    obtain ⟨W, hW⟩ : ∃ W, (w1.alloc (.cells #[.int .i64 o, .string (s.extract 0 i), .string ⟨#[]⟩] 24)).drew = W := ⟨_, rfl⟩
    rw [hW] at HBW HEB
    rw [hE]
    have hx1 := HX0.out.on HBW.out
    obtain ⟨k0, k1, k2⟩ := hx1.cells
    obtain ⟨f0, f1, f2⟩ := boxE_free hx1
    obtain ⟨y0, y1, y2⟩ := HEB.out.cells
    obtain ⟨z0, z1, z2⟩ := boxE_free HEB.out
    simp only at k0 k1 k2 y0 y1 y2
    have HX1 := hid hx1
    have HRW : Hid (Below R w W) := HB0.out.trans (HBW.out.mono (Nat.le_of_lt hRl))
    clear hx1
    have hcd : (s.extract (i + 1) s.size).data.toList = s.data.toList.drop (i + 1) := ext_drop s (i + 1)
    by_cases h4 : o = 4
    · have hkb : (o == 4) = true := by rw [h4]; rfl
      have hvv := HV.out
      rw [if_pos h4] at hvv
      by_cases hL : s.data.toList.drop (i + 1) = []
      · have hbe : (s.extract (i + 1) s.size).toList.isEmpty = true := by rw [Lib.toList_data, hcd, hL]; rfl
        have HO : Hid (V = .tuple #[.agg #[.int .i64 o, .string (s.extract 0 i), .string ⟨#[]⟩], .int .i64 0]) := by
          show _ = _
          rw [← hvv, if_pos hL, h4, HE.out]
          rfl
        clear hvv hL hcd h4
        go_wp2_with fail
        obtain ⟨j0, j1, j2⟩ := (boxE_put HX1.out (o, s.extract 0 i, ⟨#[]⟩)).cells
        simp only at j0 j1 j2
        exact bodyPost_ret (v := .tuple #[.agg #[.int .i64 o, .string (s.extract 0 i), .string ⟨#[]⟩], .int .i64 0]) (by simp [results, Tryz.results27, go_sem, j0, j1, j2]) rfl ⟨by rw [HO.out], belE_put HRW.out (Nat.le_refl _) (o, s.extract 0 i, ⟨#[]⟩)⟩
      · have hbe : (s.extract (i + 1) s.size).toList.isEmpty = false := by
          rw [Lib.toList_data, hcd]
          cases hq : s.data.toList.drop (i + 1) with
          | nil => exact absurd hq hL
          | cons _ _ => rfl
        have HO : Hid (V = .tuple #[.agg #[.int .i64 0, .string ⟨#[]⟩, .string ⟨#[]⟩], .int .i64 4]) := by
          show _ = _
          rw [← hvv, if_neg hL]
          rfl
        clear hvv hL hcd h4
        go_wp2_with fail
        obtain ⟨j0, j1, j2⟩ := (boxE_put HX1.out (0, ⟨#[]⟩, ⟨#[]⟩)).cells
        simp only at j0 j1 j2
        exact bodyPost_ret (v := .tuple #[.agg #[.int .i64 0, .string ⟨#[]⟩, .string ⟨#[]⟩], .int .i64 4]) (by simp [results, Tryz.results27, go_sem, j0, j1, j2]) rfl ⟨by rw [HO.out], belE_put HRW.out (Nat.le_refl _) (0, ⟨#[]⟩, ⟨#[]⟩)⟩
    · have hkb : (o == 4) = false := beq_eq_false_iff_ne.2 h4
      have hvv := HV.out
      rw [if_neg h4] at hvv
      have hcp := Tryz.strings_CutPrefix (s.extract (i + 1) s.size) ⟨#[61]⟩ W
      rw [hcd] at hcp
      obtain ⟨wr, hwr⟩ : ∃ wr : ByteArray, ⟨(Lib.trimPrefix (s.data.toList.drop (i + 1)) [61]).toArray⟩ = wr := ⟨_, rfl⟩
      have hwrl : wr.data.toList = Lib.trimPrefix (s.data.toList.drop (i + 1)) [61] := by rw [← hwr]
      have hwrs : wr.size ≤ s.size := by
        have e1 : wr.size = wr.data.toList.length := by simp
        rw [e1, hwrl]
        have e2 : (Lib.trimPrefix (s.data.toList.drop (i + 1)) [61]).length ≤ (s.data.toList.drop (i + 1)).length := by
          unfold Lib.trimPrefix
          split
          · rw [List.length_drop]; exact Nat.sub_le _ _
          · exact Nat.le_refl _
        have e3 : (s.data.toList.drop (i + 1)).length ≤ s.data.toList.length := by simp
        have e4 : s.data.toList.length = s.size := by simp
        omega
      have hrd := read_any wr W (HP.out.on HBW.out) (by omega)
      have HKE : Hid (∀ W2, Below W.heap.size W W2 → (BoxE W2 E (o, s.extract 0 i, ⟨#[]⟩) ∧ BoxE W2 R (0, ⟨#[]⟩, ⟨#[]⟩)) ∧ Below R w W2) := fun W2 h => ⟨⟨HEB.out.on h, HX1.out.on h⟩, HRW.out.trans (h.mono (by have := HBW.out.size; omega))⟩
      cases hpre : Lib.hasPrefix (s.data.toList.drop (i + 1)) [61] with
      | false =>
        have HO : Hid (V = .tuple #[.agg #[.int .i64 0, .string ⟨#[]⟩, .string ⟨#[]⟩], .int .i64 4]) := by
          show _ = _
          rw [← hvv, if_neg (by rw [hpre]; decide)]
          rfl
        have HCP : Hid (Calls Tryz.prog 57 #[.string (s.extract (i + 1) s.size), .string ⟨#[61]⟩] W fun e w' => e = .returned (.tuple #[.string wr, .bool false]) ∧ W = w') := hcp.mono fun e w' h => ⟨by rw [h.1, ← hwr, ← hpre], h.2.symm⟩
        have HRD : Hid (Calls Tryz.prog 58 #[.string wr] W fun e w' => ∃ t k, e = .returned (.tuple #[.string t, .int .i64 k]) ∧ Below W.heap.size W w') := hrd.mono fun e w' h => by
          cases hr : readL wr.data.toList with
          | none => rw [hr] at h; exact ⟨_, _, h.1, h.2⟩
          | some t => rw [hr] at h; exact ⟨_, _, h.1, h.2⟩
        clear hvv hcd h4 hcp hwr hwrl hwrs hrd hpre k0 k1 k2 f0 f1 f2
        go_wp2_with fail
        refine HCP.out.mono ?_
        rintro e w3 ⟨rfl, rfl⟩
        go_wp2_with fail
        refine HRD.out.mono ?_
        rintro e w4 ⟨t, k, rfl, hb4⟩
        obtain ⟨⟨hbE, hbR⟩, hbw⟩ := HKE.out _ hb4
        obtain ⟨k0, k1, k2⟩ := hbR.cells
        obtain ⟨f0, f1, f2⟩ := boxE_free hbR
        simp only at k0 k1 k2
        have HXR := hid hbR
        have HBR := hid hbw
        clear hb4 hbE hbR hbw
        go_wp2_with fail
        obtain ⟨j0, j1, j2⟩ := (boxE_put HXR.out (0, ⟨#[]⟩, ⟨#[]⟩)).cells
        simp only at j0 j1 j2
        exact bodyPost_ret (v := .tuple #[.agg #[.int .i64 0, .string ⟨#[]⟩, .string ⟨#[]⟩], .int .i64 4]) (by simp [results, Tryz.results27, go_sem, j0, j1, j2]) rfl ⟨by rw [HO.out], belE_put HBR.out (Nat.le_refl _) (0, ⟨#[]⟩, ⟨#[]⟩)⟩
      | true =>
        have HCP : Hid (Calls Tryz.prog 57 #[.string (s.extract (i + 1) s.size), .string ⟨#[61]⟩] W fun e w' => e = .returned (.tuple #[.string wr, .bool true]) ∧ W = w') := hcp.mono fun e w' h => ⟨by rw [h.1, ← hwr, ← hpre], h.2.symm⟩
        have hdr : wr.data.toList = (s.data.toList.drop (i + 1)).drop 1 := by
          rw [hwrl]
          unfold Lib.trimPrefix
          rw [if_pos hpre]
          rfl
        rw [if_pos hpre, ← hdr] at hvv
        cases hr : readL wr.data.toList with
        | none =>
          rw [hr] at hrd hvv
          have HO : Hid (V = .tuple #[.agg #[.int .i64 0, .string ⟨#[]⟩, .string ⟨#[]⟩], .int .i64 4]) := hvv.symm
          have HRD : Hid (Calls Tryz.prog 58 #[.string wr] W fun e w' => e = .returned (.tuple #[.string ⟨#[]⟩, .int .i64 4]) ∧ Below W.heap.size W w') := hrd
          clear hvv hcd h4 hcp hwr hwrl hwrs hrd hpre k0 k1 k2 f0 f1 f2 hdr hr
          go_wp2_with fail
          refine HCP.out.mono ?_
          rintro e w3 ⟨rfl, rfl⟩
          go_wp2_with fail
          refine HRD.out.mono ?_
          rintro e w4 ⟨rfl, hb4⟩
          obtain ⟨⟨hbE, hbR⟩, hbw⟩ := HKE.out _ hb4
          obtain ⟨k0, k1, k2⟩ := hbR.cells
          obtain ⟨f0, f1, f2⟩ := boxE_free hbR
          simp only at k0 k1 k2
          have HXR := hid hbR
          have HBR := hid hbw
          clear hb4 hbE hbR hbw
          go_wp2_with fail
          obtain ⟨j0, j1, j2⟩ := (boxE_put HXR.out (0, ⟨#[]⟩, ⟨#[]⟩)).cells
          simp only at j0 j1 j2
          exact bodyPost_ret (v := .tuple #[.agg #[.int .i64 0, .string ⟨#[]⟩, .string ⟨#[]⟩], .int .i64 4]) (by simp [results, Tryz.results27, go_sem, j0, j1, j2]) rfl ⟨by rw [HO.out], belE_put HBR.out (Nat.le_refl _) (0, ⟨#[]⟩, ⟨#[]⟩)⟩
        | some t =>
          rw [hr] at hrd hvv
          have HO : Hid (V = .tuple #[.agg #[.int .i64 o, .string (s.extract 0 i), .string ⟨t.toArray⟩], .int .i64 0]) := by
            show _ = _
            rw [← hvv, HE.out]
            rfl
          have HRD : Hid (Calls Tryz.prog 58 #[.string wr] W fun e w' => e = .returned (.tuple #[.string ⟨t.toArray⟩, .int .i64 0]) ∧ Below W.heap.size W w') := hrd
          clear hvv hcd h4 hcp hwr hwrl hwrs hrd hpre k0 k1 k2 f0 f1 f2 hdr hr
          go_wp2_with fail
          refine HCP.out.mono ?_
          rintro e w3 ⟨rfl, rfl⟩
          go_wp2_with fail
          refine HRD.out.mono ?_
          rintro e w4 ⟨rfl, hb4⟩
          obtain ⟨⟨hbE, hbR⟩, hbw⟩ := HKE.out _ hb4
          have hbE2 := boxE_text hbE ⟨t.toArray⟩
          have hbR2 : BoxE (w4.setCell ⟨E, 2, none⟩ (.string ⟨t.toArray⟩)) R (0, ⟨#[]⟩, ⟨#[]⟩) := (Below.heap_setCell w4 _ _ _ hRE).trans hbR
          obtain ⟨y0, y1, y2⟩ := hbE.cells
          obtain ⟨z0, z1, z2⟩ := boxE_free hbE
          obtain ⟨x0, x1, x2⟩ := hbE2.cells
          obtain ⟨k0, k1, k2⟩ := hbR2.cells
          obtain ⟨f0, f1, f2⟩ := boxE_free hbR2
          simp only at k0 k1 k2 y0 y1 y2 x0 x1 x2
          have HXR := hid hbR2
          have HBR : Hid (Below R w (w4.setCell ⟨E, 2, none⟩ (.string ⟨t.toArray⟩))) := hbw.setCell (p := ⟨E, 2, none⟩) (by show R ≤ E; omega) _
          clear hb4 hbE hbE2 hbR hbR2 hbw
          obtain ⟨W5, hW5⟩ : ∃ W5, w4.setCell ⟨E, 2, none⟩ (.string ⟨t.toArray⟩) = W5 := ⟨_, rfl⟩
          rw [hW5] at HXR HBR k0 k1 k2 f0 f1 f2 x0 x1 x2
          go_wp2_with fail
          obtain ⟨j0, j1, j2⟩ := (boxE_put HXR.out (o, s.extract 0 i, ⟨t.toArray⟩)).cells
          simp only at j0 j1 j2
          exact bodyPost_ret (v := .tuple #[.agg #[.int .i64 o, .string (s.extract 0 i), .string ⟨t.toArray⟩], .int .i64 0]) (by simp [results, Tryz.results27, go_sem, j0, j1, j2]) rfl ⟨by rw [HO.out], belE_put HBR.out (Nat.le_refl _) (o, s.extract 0 i, ⟨t.toArray⟩)⟩

theorem read_edit (s : ByteArray) (w : World) (hp : PlainAt w) (hs : s.size ≤ 4294967000) :
    Calls Tryz.prog 27 #[.string s] w fun e w' => e = .returned (editV (editO s.data.toList)) ∧ Below w.heap.size w w' := by
  rcases indexAny_first s.data.toList with ⟨_, h⟩ | ⟨i, _, hi, h1, h2⟩
  · have := read_none s w hs h
    rw [k_none h]
    exact this
  · exact read_sign s w hp hs i hi h1 h2

end Go.Proofs.YtelcongbnmfegabGreatDoor

/-
  What ValueKeeps makes and writes: rows with spare room, and fields that are written over.
-/
namespace Go.Proofs.YtelcongbnmfegabGreatDoor
open Go.RowKit Go.Lib

theorem Tryz.infoTs : (Tryz.prog.info? 32).map (fun i => (i.zero, i.size, i.bytes)) = some (some (.slice none 0 0), 1, 24) := by kernel_rfl

def markA : ByteArray := ⟨#[109, 97, 114, 107]⟩

/-- The texts of x lie in a block of their own at or behind N, with two cells of spare room: the mark, and nothing. -/
def RoomAt (N : Nat) (W : World) (x : Fx) : Prop :=
  ∃ g, x.p = some ⟨g, 0, none⟩ ∧ x.cap = x.txt.length + 2 ∧ N ≤ g ∧ W.heap[g]? = some (.cells (x.txt.map Value.string ++ [Value.string markA, Value.string ⟨#[]⟩]).toArray 9 (0, 0))

theorem RoomAt.on {N : Nat} {W W' : World} {x : Fx} (h : RoomAt N W x) (hb : Below W.heap.size W W') : RoomAt N W' x := by
  obtain ⟨g, h1, h2, h3, h4⟩ := h
  exact ⟨g, h1, h2, h3, (hb.block g (Array.getElem?_eq_some_iff.1 h4).1).trans h4⟩

theorem RoomAt.else {N m0 : Nat} {W W' : World} {x : Fx} {e : TypeId} {size : Nat} {u : Value} {m : Nat} {ys : List Value} (h : RoomAt N W x) (hu : W.ownsRow m0 e size u m ys) (hne : e ≠ 9) (hg : W.grownBy W' u.ownBlock) : RoomAt N W' x := by
  obtain ⟨g, h1, h2, h3, h4⟩ := h
  refine ⟨g, h1, h2, h3, (hg.block g (Array.getElem?_eq_some_iff.1 h4).1 fun e2 => ?_).trans h4⟩
  obtain ⟨cs', h5⟩ := own_type hu e2.symm
  rw [h4] at h5
  injection h5 with h5
  injection h5 with _ h5
  exact hne h5.symm

theorem RoomAt.at {N : Nat} {W : World} {x : Fx} (h : RoomAt N W x) : x.at W := by
  obtain ⟨g, h1, _, _, h4⟩ := h
  refine Or.inr ⟨g, 0, h1, fun i hi => ?_⟩
  rw [Nat.zero_add, cell_of_row W g i _ _ _ h4]
  simp [List.getElem?_append, hi]

theorem RoomAt.mark {N : Nat} {W : World} {x : Fx} (h : RoomAt N W x) : ∃ g, x.p = some ⟨g, 0, none⟩ ∧ x.cap = x.txt.length + 2 ∧ W.cell? ⟨g, x.txt.length, none⟩ = some (.string markA) := by
  obtain ⟨g, h1, h2, _, h4⟩ := h
  refine ⟨g, h1, h2, ?_⟩
  rw [cell_of_row W g _ _ _ _ h4]
  simp

/-- What the first loop has made. -/
structure Ins (w : World) (e : List Fx) (vi vr : Value) (W : World) : Prop where
  row : RowX w.heap.size W vi e
  rooms : W.ownsRow w.heap.size 32 1 vr e.length (e.map Fx.sl)
  each : ∀ x ∈ e, RoomAt w.heap.size W x
  bel : Below w.heap.size w W

theorem Ins.on {w W W' : World} {e : List Fx} {vi vr : Value} (h : Ins w e vi vr W) (hb : Below W.heap.size W W') : Ins w e vi vr W' :=
  ⟨own_on h.row hb, own_on h.rooms hb, fun x hx => (h.each x hx).on hb, h.bel.trans (hb.mono h.bel.size)⟩

theorem Ins.is {w W : World} {e : List Fx} {vi vr : Value} (h : Ins w e vi vr W) : IsXs W vi e := h.row.is fun x hx => (h.each x hx).at

/-- The cells of a new room, the texts copied and the mark set. -/
theorem room_cells (ts : List ByteArray) : ((splice (List.replicate (ts.length + 2) (Value.string ⟨#[]⟩)) 0 (ts.map Value.string)).toArray.setIfInBounds ts.length (.string markA)) = (ts.map Value.string ++ [Value.string markA, Value.string ⟨#[]⟩]).toArray := by
  apply Array.toList_inj.1
  rw [Array.toList_setIfInBounds]
  simp only [splice, List.take_zero, List.nil_append, List.length_map, Nat.zero_add, List.drop_replicate]
  rw [show ts.length + 2 - ts.length = 2 by omega, List.set_append_right _ _ (by simp)]
  simp

theorem made_strs (n : Nat) : madeCells (Value.string ⟨#[]⟩).cells ((n + 2) * 1) = (List.replicate (n + 2) (Value.string ⟨#[]⟩)).toArray := by
  apply Array.toList_inj.1
  apply List.ext_getElem
  · simp [madeCells]
  · intro i h1 h2
    simp [madeCells, Value.cells]
    rw [Nat.mod_one]
    rfl

/-- What Norm answers, its rows apart. -/
def NJPost (w : World) (fs : List Fld) (e : Ending) (w' : World) : Prop :=
  (∃ u o, e = .returned (.tuple #[u, .int .i64 (codeF fs)]) ∧ OwnJ w.heap.size w' u o ∧ o.map Fx.fld = ansF fs) ∧ Below w.heap.size w w'

theorem own_noneJ (N : Nat) (w : World) : OwnJ N w (.slice none 0 0) [] := ⟨own_none _ _, List.Pairwise.nil⟩

theorem norm_apart (v : Value) (d : List Fx) (w : World) (hv : IsXs w v d) (hf : FitX d) (hl : d.length * 40 ≤ 140737488355328) (htot : totF (d.map Fx.fld) * 16 ≤ 140737488355328) :
    Calls Tryz.prog 14 #[v] w fun e w' => NJPost w (d.map Fx.fld) e w' := by
  refine (norm_any v d w hv hf hl htot).mono fun e w' h => ⟨?_, h.2⟩
  rcases h.ans.plain with ⟨h1, rfl⟩ | ⟨h1, ⟨h2, rfl⟩ | ⟨h2, h3, rfl⟩ | ⟨h2, h3, u, o, rfl, ho, hm⟩⟩
  · have hc : codeF (d.map Fx.fld) = 2 := by unfold codeF; rw [h1]; rfl
    exact ⟨_, [], by rw [hc], own_noneJ _ _, by unfold ansF; rw [hc]; rfl⟩
  · have hc : codeF (d.map Fx.fld) = 3 := by unfold codeF; rw [h1, h2]; rfl
    exact ⟨_, [], by rw [hc], own_noneJ _ _, by unfold ansF; rw [hc]; rfl⟩
  · have hc : codeF (d.map Fx.fld) = 5 := by unfold codeF; rw [h1, h2, h3]; rfl
    exact ⟨_, [], by rw [hc], own_noneJ _ _, by unfold ansF; rw [hc]; rfl⟩
  · have hc : codeF (d.map Fx.fld) = 0 := by unfold codeF; rw [h1, h2, h3]; rfl
    exact ⟨u, o, by rw [hc], ho, by unfold ansF; rw [hc]; exact hm⟩

theorem ans_small {fs : List Fld} : ∀ f ∈ ansF fs, f.2.length ≤ 8 := by
  unfold ansF
  split
  · rename_i h
    exact fun f hf => (fits_parts (may_fits (codeF_zero h).2.2 f hf)).2.2.1
  · intro f hf; simp at hf

end Go.Proofs.YtelcongbnmfegabGreatDoor

/-
  The contracts of the reference's ParseWords and Parse of edits.
-/
namespace Go.Proofs.YtelcongbnmfegabGreatDoor
open Go.RowKit Go.Lib

def fitEd (x : Ed) : Prop := x.2.1.size ≤ 1000000000000 ∧ x.2.2.size ≤ 1000000000000 ∧ 0 ≤ x.1 ∧ x.1 ≤ 5

def EWPost (w : World) (o : Option (List Ed)) (e : Ending) (w' : World) : Prop :=
  (∃ u, e = .returned (.tuple #[u, .int .i64 (codeL o)]) ∧ KE.Own w.heap.size w' u (ansL o)) ∧ Below w.heap.size w w'

def EWSt (w : World) (ls : List (List UInt8)) (i : Nat) (v : Value) (wr : World) : Prop :=
  ∃ d, KE.Own w.heap.size wr v d ∧ editsW (ls.take i) = some d ∧ d.length = i ∧ (∀ x ∈ d, fitEd x) ∧ Below w.heap.size w wr

theorem ew_no {w w' : World} {o : Option (List Ed)} {e : Ending} (ho : o = none) (he : e = .returned (.tuple #[.slice none 0 0, .int .i64 4])) (hb : Below w.heap.size w w') : EWPost w o e w' := by
  subst ho
  exact ⟨⟨_, he, KE.own_nil _ _⟩, hb⟩

theorem ew_of {w w' : World} {o : Option (List Ed)} {d : List Ed} {u : Value} {e : Ending} (ho : o = some d) (he : e = .returned (.tuple #[u, .int .i64 (mayE d)])) (hw : KE.Own w.heap.size w' u (if mayE d = 0 then d else [])) (hb : Below w.heap.size w w') : EWPost w o e w' := by
  subst ho
  exact ⟨⟨_, he, hw⟩, hb⟩

end Go.Proofs.YtelcongbnmfegabGreatDoor

/-
  The contract of Parse of edits.
-/
namespace Go.Proofs.YtelcongbnmfegabGreatDoor
open Go.RowKit
attribute [local go_sem] Oper.semAt_some

theorem editO_fit {l : List UInt8} {x : Ed} (h : editO l = some x) : x.2.1.size ≤ l.length ∧ x.2.2.size ≤ l.length ∧ 0 ≤ x.1 ∧ x.1 ≤ 5 := by
  unfold editO at h
  have ht : (l.takeWhile (fun c => !isK c)).length ≤ l.length := (List.takeWhile_sublist _).length_le
  cases hd : l.dropWhile (fun c => !isK c) with
  | nil => rw [hd] at h; cases h
  | cons c r =>
    rw [hd] at h
    simp only at h
    have hl : (l.dropWhile (fun c => !isK c)).length ≤ l.length := (List.dropWhile_sublist _).length_le
    rw [hd, List.length_cons] at hl
    have hk := kindN_range (c.toNat : Int)
    by_cases h4 : kindN (c.toNat : Int) = 4
    · rw [if_pos h4] at h
      split at h
      · cases h
        refine ⟨?_, Nat.zero_le _, (show (0 : Int) ≤ 4 by decide), (show (4 : Int) ≤ 5 by decide)⟩
        show (l.takeWhile _).toArray.size ≤ _
        rw [List.size_toArray]
        exact ht
      · cases h
    · rw [if_neg h4] at h
      cases r with
      | nil => cases h
      | cons d r2 =>
        simp only at h
        split at h
        · cases hr : readL r2 with
          | none => rw [hr] at h; cases h
          | some t =>
            rw [hr] at h
            cases h
            have h1 := readL_len _ _ _ (Nat.le_refl _) hr
            rw [List.length_cons] at hl
            refine ⟨?_, ?_, hk.1, hk.2⟩
            · show (l.takeWhile _).toArray.size ≤ _
              rw [List.size_toArray]
              exact ht
            · show t.toArray.size ≤ _
              rw [List.size_toArray]
              omega
        · cases h

theorem editsW_fit {B : Nat} (ls : List (List UInt8)) (hB : ∀ l ∈ ls, l.length ≤ B) : ∀ d, editsW ls = some d → d.length = ls.length ∧ ∀ x ∈ d, x.2.1.size ≤ B ∧ x.2.2.size ≤ B ∧ 0 ≤ x.1 ∧ x.1 ≤ 5 := by
  induction ls with
  | nil => intro d h; cases h; exact ⟨rfl, fun x hx => by simp at hx⟩
  | cons l ls ih =>
    intro d h
    simp only [editsW] at h
    cases ho : editO l with
    | none => rw [ho] at h; cases h
    | some y =>
      rw [ho] at h
      cases hr : editsW ls with
      | none => rw [hr] at h; cases h
      | some gs =>
        rw [hr] at h
        cases h
        obtain ⟨h1, h2⟩ := ih (fun l' hl' => hB l' (by simp [hl'])) gs hr
        refine ⟨by simp [h1], fun x hx => ?_⟩
        rcases List.mem_cons.1 hx with rfl | hx
        · obtain ⟨f1, f2, f3, f4⟩ := editO_fit ho
          have := hB l (by simp)
          exact ⟨by omega, by omega, f3, f4⟩
        · exact h2 x hx

theorem may_take (D : List Ed) : mayE (D.take 17) = mayE D := by
  by_cases h : D.length ≤ 17
  · rw [List.take_of_length_le h]
  · have e : (D.take 17).length = 17 := by rw [List.length_take]; omega
    unfold mayE
    rw [if_pos (by omega), if_pos (by omega)]

theorem take_short {D : List Ed} (h : mayE D = 0) : D.take 17 = D := List.take_of_length_le (by have := (mayE_zero h).1; omega)

theorem Kind.own_farE {α : Type} {K : Kind α} {N R : Nat} {w w' : World} {v : Value} {d : List α} (h : K.Own N w v d) (hg : w.grownBy w' (some R)) (hR : R < N) : K.Own N w' v d :=
  own_same h fun k hk => hg.block k (World.ownsRow.lt h k hk).2 (fun e => by have := (World.ownsRow.lt h k hk).1; have := Option.some.inj e; omega)

/-- What Parse holds between two rounds. -/
def ESt {M : Nat} (w : World) (N : Nat) (pre : List (Wd M)) (W : World) : Prop :=
  ∃ v d, W.heap[w.heap.size + 2]? = some (.cells #[v] 29 (0, 0)) ∧ KE.Own (N + 2) W v d ∧ (∃ D, editsW (plainW pre) = some D ∧ D.length = pre.length ∧ d = D.take 17) ∧
    W.heap[w.heap.size]? = some (.cells #[.slice none 0 0] 29 (0, 0)) ∧ W.heap[w.heap.size + 1]? = some (.cells #[.int .i64 0] 26 (0, 0)) ∧ Below w.heap.size w W ∧ N + 2 ≤ W.heap.size ∧ w.heap.size + 6 ≤ N

def EStop {M : Nat} (w : World) (N : Nat) (c : Code) (pre : List (Wd M)) (W : World) : Prop :=
  c = .ret ∧ editsW (plainW pre) = none ∧ W.heap[w.heap.size]? = some (.cells #[.slice none 0 0] 29 (0, 0)) ∧ W.heap[w.heap.size + 1]? = some (.cells #[.int .i64 4] 26 (0, 0)) ∧ Below w.heap.size w W ∧ w.heap.size + 6 ≤ N

set_option maxHeartbeats 1000000 in
theorem pparseE_empty (w : World) : Calls Tryz.prog 12 #[.string ⟨#[]⟩] w fun e w' => EWPost w (editsW (wordsAns [])) e w' := by
  refine (callsIn_wide (n := 3)).1 ?_
  refine callsIn_of_wp_marks Tryz.func12 rfl trivial ?_ rfl
  simp only [Tryz.ntmps12, List.size_toArray, List.length_cons, List.length_nil, Nat.reduceAdd, Nat.reduceSub, Array.replicate_succ, Array.replicate_zero, List.push_toArray, List.append_toArray, List.nil_append, List.cons_append]
  gi_wp2
  exact ⟨.tuple #[.slice none 0 0, .int .i64 0], by simp [results, Tryz.results12, go_sem], ⟨⟨_, rfl, KE.own_nil _ _⟩, ((Below.refl _ w).alloc (Nat.le_refl _) _).alloc (by simp) _⟩⟩

set_option maxHeartbeats 4000000 in
set_option maxRecDepth 100000 in
theorem pparseE_words (s : ByteArray) (w : World) (hp : PlainAt w) (h0 : s.data.toList ≠ []) (hs : s.size ≤ 4294967000) :
    Calls Tryz.prog 12 #[.string s] w fun e w' => EWPost w (editsW (wordsAns s.data.toList)) e w' := by
  refine (callsIn_wide (n := 3)).1 ?_
  refine callsIn_of_wp_marks Tryz.func12 rfl trivial ?_ rfl
  simp only [Tryz.ntmps12, List.size_toArray, List.length_cons, List.length_nil, Nat.reduceAdd, Nat.reduceSub, Array.replicate_succ, Array.replicate_zero, List.push_toArray, List.append_toArray, List.nil_append, List.cons_append]
  have hsl : (splitL s.data.toList).length ≤ s.size + 1 := by simpa using splitL_len s.data.toList
  have hne : s.toList.isEmpty = false := by
    rw [Lib.toList_data]
    cases h : s.data.toList with
    | nil => exact absurd h h0
    | cons _ _ => rfl
  gi_wp2_with (refine ⟨trivial, ?_⟩; gi_at_call 26; refine (callsIn_wide.2 (splitSeq_any _ _)).mono ?_; rintro e w3 ⟨rfl, hbx, hb3, hs3⟩)
  simp only [World.size_alloc] at hbx hb3 hs3
  have hb30 : Below w.heap.size w w3 := ((((Below.refl _ w).alloc (Nat.le_refl _) _).alloc (by simp) _).alloc (by simp; omega) _).trans (hb3.mono (by omega))
  have g0 : w3.heap[w.heap.size]? = some (.cells #[.slice none 0 0] 29 (0, 0)) := by
    rw [hb3.block _ (by omega), Below.heap_alloc _ _ _ (by simp; omega), Below.heap_alloc _ _ _ (by simp)]; exact heap_alloc_new w _
  have g1 : w3.heap[w.heap.size + 1]? = some (.cells #[.int .i64 0] 26 (0, 0)) := by
    rw [hb3.block _ (by omega), Below.heap_alloc _ _ _ (by simp)]
    have := heap_alloc_new (w.alloc (.cells #[.slice none 0 0] 29)) (.cells #[.int .i64 0] 26)
    simpa using this
  have g2 : w3.heap[w.heap.size + 2]? = some (.cells #[.slice none 0 0] 29 (0, 0)) := by
    rw [hb3.block _ (by omega)]
    have := heap_alloc_new ((w.alloc (.cells #[.slice none 0 0] 29)).alloc (.cells #[.int .i64 0] 26)) (.cells #[.slice none 0 0] 29)
    simpa using this
  have hN6 : w3.heap.size = w.heap.size + 6 := by omega
  have ST0 : Hid (∀ o1 o2, ESt (M := s.size) w w3.heap.size [] ((w3.alloc o1).alloc o2)) := fun o1 o2 => by
    have ha : ∀ k, k < w3.heap.size → ((w3.alloc o1).alloc o2).heap[k]? = w3.heap[k]? := fun k hk => by
      rw [Below.heap_alloc _ _ _ (by simp; omega), Below.heap_alloc _ _ _ hk]
    exact ⟨.slice none 0 0, [], (ha _ (by omega)).trans g2, KE.own_nil _ _, ⟨[], rfl, rfl, rfl⟩, (ha _ (by omega)).trans g0, (ha _ (by omega)).trans g1,
      (hb30.alloc hb30.size _).alloc (by have := hb30.size; simp; omega) _, by simp, by omega⟩
  have HBX := hid hbx
  have HP := hid hp
  have hen := enters_of (P := Tryz.prog) Tryz.func81 (by kernel_rfl) rfl
  clear hbx hp g0 g1 g2 hb3 hs3
  refine wpIn_rangeFunc_box (w := w3) rfl (by decide) (gf := 81) (lb := #[.pointer (some ⟨w.heap.size + 1 + 1 + 1 + 1, 0, none⟩), .pointer (some ⟨w.heap.size + 1 + 1 + 1, 0, none⟩), .pointer (some ⟨w.heap.size + 1 + 1 + 1 + 2, 0, none⟩)]) rfl trivial hen (Bs := w.heap.size + 1 + 1 + 1) (by omega)
    (split1_seq 2 (by decide) s.size _ _ _ s (Nat.le_refl _) (by unfold maxLen; omega) w3 HBX.out) ?hKt ?hKb (fun _ => rfl) (ESt w w3.heap.size) (EStop w w3.heap.size) ?hIp ?hIb ?hXp ST0.out
    (fun x => { tmps := #[.string s, undef, .pointer (some ⟨w.heap.size, 0, none⟩), .pointer (some ⟨w.heap.size + 1, 0, none⟩), .pointer (some ⟨w.heap.size + 1 + 1, 0, none⟩), .string x.1, undef, undef, undef, .string s, .bool false, .string s,
      .func (.func 81) #[] #[.pointer (some ⟨w.heap.size + 1 + 1 + 1 + 1, 0, none⟩), .pointer (some ⟨w.heap.size + 1 + 1 + 1, 0, none⟩), .pointer (some ⟨w.heap.size + 1 + 1 + 1 + 2, 0, none⟩)],
      .string x.1, undef, undef, undef, undef, undef, undef, undef, undef, undef, undef, undef, undef, undef, undef, undef, undef, undef, undef, undef, undef, undef], defers := [] }) ?assign ?body ?done ?stop
  case hKt => exact fun h k => ⟨k.1.trans h.1, k.2.1.trans h.2.1, k.2.2.trans h.2.2⟩
  case hKb => exact fun W l o' hl => ⟨World.putObj_heap_other (by omega), World.putObj_heap_other (by omega), World.putObj_heap_other (by omega)⟩
  case hIp =>
    rintro pre W o' ⟨v, d, k2, hox, hf, k0, k1, hb, hz, h6⟩
    have hg : W.grownBy (W.putObj (w3.heap.size + 1) o') (some (w3.heap.size + 1)) := grownBy_putObj' W _ o'
    exact ⟨v, d, (World.putObj_heap_other (by omega)).trans k2, Kind.own_farE hox hg (by omega), hf, (World.putObj_heap_other (by omega)).trans k0, (World.putObj_heap_other (by omega)).trans k1, hb.grown hg (by omega) (fun k e => by cases e; omega), Nat.le_trans hz hg.size, h6⟩
  case hIb =>
    rintro pre W u ⟨v, d, k2, hox, hf, k0, k1, hb, hz, h6⟩
    have hg : W.grownBy (W.setCell ⟨w.heap.size + 1 + 1 + 1, 0, none⟩ u) (some (w.heap.size + 1 + 1 + 1)) := grown_set W _ 0 u
    exact ⟨v, d, (hg.block _ (by omega) (by intro e; have := Option.some.inj e; omega)).trans k2, Kind.own_farE hox hg (by omega), hf, (hg.block _ (by omega) (by intro e; have := Option.some.inj e; omega)).trans k0, (hg.block _ (by omega) (by intro e; have := Option.some.inj e; omega)).trans k1, hb.grown hg (by omega) (fun k e => by cases e; omega), Nat.le_trans hz hg.size, h6⟩
  case hXp =>
    rintro c pre W o' ⟨hc, hf, k0, k1, hb, h6⟩
    have hg : W.grownBy (W.putObj (w3.heap.size + 1) o') (some (w3.heap.size + 1)) := grownBy_putObj' W _ o'
    exact ⟨hc, hf, (World.putObj_heap_other (by omega)).trans k0, (World.putObj_heap_other (by omega)).trans k1, ⟨hg.os.trans hb.os, hg.tape.trans hb.tape, hg.output.trans hb.output, Nat.le_trans hb.size hg.size, fun k hk => (World.putObj_heap_other (by omega)).trans (hb.block k hk)⟩, h6⟩
  case assign =>
    intro l x W K hK
    simp only [encW]
    gi_wp2
    exact hK
  case body =>
    rintro l pre x W hlW ⟨v, d, k2, hox, ⟨D, hf, hl, hdD⟩, k0, k1, hb, hz, h6⟩ _
    have hwp := read_edit x.1 W (HP.out.on hb) (Nat.le_trans x.2 hs)
    obtain ⟨i0, hi, hz0, hz1, hz2⟩ := info_parts Tryz.infoEd
    have hpl : plainW (pre ++ [x]) = plainW pre ++ [x.1.data.toList] := by simp [plainW]
    have HPL := hid hpl
    have HF := hid hf
    have HB := hid hb
    have HOX := hid hox
    have HK0 := hid k0
    have HK1 := hid k1
    have HK2 := hid k2
    have HLN := hid hl
    have HDD := hid hdD
    clear hpl hf hb hox hl hdD
    cases hwo : editO x.1.data.toList with
    | none =>
      rw [hwo] at hwp
      have HW : Hid (Calls Tryz.prog 27 #[.string x.1] W fun e w' => e = .returned (.tuple #[.agg #[.int .i64 0, .string ⟨#[]⟩, .string ⟨#[]⟩], .int .i64 4]) ∧ Below W.heap.size W w') := hwp
      have HNO : Hid (editsW (plainW (pre ++ [x])) = none) := by
        show _ = _
        rw [HPL.out]
        exact editsW_no hwo
      clear hwp k0 k1 k2
      have HN6 := hid hN6
      clear hN6
      gi_wp2_with (refine ⟨trivial, ?_⟩; gi_at_call 27; refine (CallsIn.inRound l (callsIn_wide.2 HW.out)).mono ?_; rintro e W2 ⟨rfl, hb2⟩; have hs2 := hb2.size; have t0 := HK0.out; have t1 := HK1.out; have t0' := (Below.heap_alloc W2 (.cells #[.int .i64 0, .string ⟨#[]⟩, .string ⟨#[]⟩] 24) w.heap.size (by omega)).trans ((hb2.block w.heap.size (by omega)).trans t0); have t1' := (Below.heap_alloc W2 (.cells #[.int .i64 0, .string ⟨#[]⟩, .string ⟨#[]⟩] 24) (w.heap.size + 1) (by omega)).trans ((hb2.block (w.heap.size + 1) (by omega)).trans t1); obtain ⟨q0, q1⟩ := one_facts t0'; obtain ⟨q2, q3⟩ := one_facts t1'; have T0 := hid t0'; have T1 := hid t1'; clear t0 t1 t0' t1')
      have hbb := ((((HB.out.trans (hb2.mono HB.out.size)).alloc (Nat.le_trans HB.out.size hs2) (.cells #[.int .i64 0, .string ⟨#[]⟩, .string ⟨#[]⟩] 24)).setCell (p := ⟨w.heap.size, 0, none⟩) (Nat.le_refl _) (.slice none 0 0)).setCell (p := ⟨w.heap.size + 1, 0, none⟩) (by show _ ≤ w.heap.size + 1; omega) (.int .i64 4))
      have hkf : KeepsFrom w3.heap.size W (W2.alloc (.cells #[.int .i64 0, .string ⟨#[]⟩, .string ⟨#[]⟩] 24)) := KeepsFrom.trans (keeps_below hb2) ((KeepsOthers.alloc _ _).from _)
      exact ⟨(hkf.trans ((KeepsOthers.setCell _ _ _).from _)).trans ((KeepsOthers.setCell _ _ _).from _), rfl, HNO.out, Boxed.other (Boxed.set _ T0.out) (by omega) _, Boxed.set _ (Boxed.other T1.out (by omega) _), hbb, h6⟩
    | some y =>
      rw [hwo] at hwp
      have HW : Hid (Calls Tryz.prog 27 #[.string x.1] W fun e w' => e = .returned (.tuple #[.agg #[.int .i64 y.1, .string y.2.1, .string y.2.2], .int .i64 0]) ∧ Below W.heap.size W w') := hwp
      have HNO : Hid (editsW (plainW (pre ++ [x])) = some (D ++ [y])) := by
        show _ = _
        rw [HPL.out]
        exact editsW_snoc HF.out hwo
      obtain ⟨yo, yf, yt⟩ := y
      simp only at HW
      clear hwp k0 k1 k2
      obtain ⟨pv, cv, rfl⟩ := Kind.own_shape HOX.out
      by_cases h17 : d.length ≤ 16
      · have h17z : (d.length : Int) ≤ 16 := by omega
        have HDT : Hid (d ++ [(yo, yf, yt)] = (D ++ [(yo, yf, yt)]).take 17) := by
          show _ = _
          have hD : D.length ≤ 16 := by rw [HDD.out, List.length_take] at h17; omega
          rw [List.take_of_length_le (by simp; omega), HDD.out, List.take_of_length_le (by omega)]
        have HN6 := hid hN6
        clear hN6
        gi_wp2_with (first | (gi_at_builtin; refine wpListIn_append_own _ rfl _ _ 29 rfl (w3.heap.size + 2) 24 i0 (.agg #[.int .i64 0, .string ⟨#[]⟩, .string ⟨#[]⟩]) 3 40 Tryz.underlying29 hi hz0 hz1 hz2 rfl (by decide) _ _ _ rfl HX2.out ⟨W2.heap.size + 1, 0, none⟩ 1 1 (KE.cells [(yo, yf, yt)]) rfl rfl HC.out (KE.cells_ones _) (by unfold maxLen; omega) (by omega) (by simp; omega) ?_; intro v' w1 hown' hgrow _; obtain ⟨g', cap', rfl⟩ := ownsRow_succ hown'; have hv1 := T2.out.kept hgrow (T2.out.not_row (by decide) HX2.out); have hc1 := hv1.cell; have hf1 := hv1.frozen; have HV1 := hid hv1; have HO := hid hown'; have HG := hid hgrow; clear hv1 hown' hgrow) | (refine ⟨trivial, ?_⟩; gi_at_call 27; refine (CallsIn.inRound l (callsIn_wide.2 HW.out)).mono ?_; rintro e W2 ⟨rfl, hb2⟩; have hs2 := hb2.size; have t2 := HK2.out; have t2' := (Below.heap_alloc W2 (.cells #[.int .i64 yo, .string yf, .string yt] 24) (w.heap.size + 2) (by omega)).trans ((hb2.block (w.heap.size + 2) (by omega)).trans t2); obtain ⟨q0, q1⟩ := one_facts t2'; have T2 : Hid (Boxed ((W2.alloc (.cells #[.int .i64 yo, .string yf, .string yt] 24)).alloc (.cells #[.int .i64 yo, .string yf, .string yt] 24)) (w.heap.size + 2) 29 (.slice pv d.length cv)) := hid (Boxed.alloc t2' _); have HB2 : Hid (Below W.heap.size W ((W2.alloc (.cells #[.int .i64 yo, .string yf, .string yt] 24)).alloc (.cells #[.int .i64 yo, .string yf, .string yt] 24))) := hid ((hb2.alloc hs2 _).alloc (by simp; omega) _); have HX2 := hid (Kind.own_on HOX.out HB2.out); have HC := hid (KE.news (W2.alloc (.cells #[.int .i64 yo, .string yf, .string yt] 24)) (yo, yf, yt)); rw [World.size_alloc] at HC; clear t2 t2'))
        have hb12 : Below (w3.heap.size + 2) W w1 := (HB2.out.mono hz).trans ((Below.refl _ _).grown HG.out (by simp; omega) (fun k hk => (World.ownsRow.lt HX2.out k hk).1))
        have hsz1 := hb12.size
        have hox0 : KE.Own (w3.heap.size + 2) w1 (.slice (some ⟨g', 0, none⟩) (d.length + 1) cap') (d ++ [(yo, yf, yt)]) := Kind.own_snoc HO.out rfl rfl
        have hox1 := Kind.own_farE hox0 (grown_set w1 (w.heap.size + 2) 0 (.slice (some ⟨g', 0, none⟩) (d.length + 1) cap')) (by omega)
        have hkf : KeepsFrom w3.heap.size W w1 := (keeps_below HB2.out).trans ((KeepsOthers.of_grownBy HG.out (fun j o ej hj => row_cells HX2.out ej hj)).from _)
        refine ⟨hkf.trans ((KeepsOthers.setCell _ _ _).from _), ⟨(Below.heap_setCell w1 _ _ _ (by show _ ≠ w.heap.size + 1 + 1; omega)).trans (hb12.block _ (by omega)), (Below.heap_setCell w1 _ _ _ (by show _ ≠ w.heap.size + 1 + 1; omega)).trans (hb12.block _ (by omega)), (Below.heap_setCell w1 _ _ _ (by show _ ≠ w.heap.size + 1 + 1; omega)).trans (hb12.block _ (by omega))⟩, ?_⟩
        exact ⟨_, d ++ [(yo, yf, yt)], Boxed.set _ HV1.out, hox1, ⟨D ++ [(yo, yf, yt)], HNO.out, by rw [List.length_append, List.length_append, HLN.out]; rfl, HDT.out⟩,
          Boxed.other ((hb12.block _ (by omega)).trans HK0.out) (by omega) _, Boxed.other ((hb12.block _ (by omega)).trans HK1.out) (by omega) _,
          (HB.out.trans (hb12.mono (by omega))).setCell (p := ⟨w.heap.size + 1 + 1, 0, none⟩) (by show _ ≤ w.heap.size + 1 + 1; omega) _, by simp [World.setCell]; omega, h6⟩
      · have h17z : ¬ ((d.length : Int) ≤ 16) := by omega
        have HDT : Hid (d = (D ++ [(yo, yf, yt)]).take 17) := by
          show _ = _
          have hD : 17 ≤ D.length := by rw [HDD.out, List.length_take] at h17; omega
          rw [List.take_append_of_le_length hD]
          exact HDD.out
        have HN6 := hid hN6
        clear hN6
        gi_wp2_with (refine ⟨trivial, ?_⟩; gi_at_call 27; refine (CallsIn.inRound l (callsIn_wide.2 HW.out)).mono ?_; rintro e W2 ⟨rfl, hb2⟩; have hs2 := hb2.size; have t2 := HK2.out; have t2' := (Below.heap_alloc W2 (.cells #[.int .i64 yo, .string yf, .string yt] 24) (w.heap.size + 2) (by omega)).trans ((hb2.block (w.heap.size + 2) (by omega)).trans t2); obtain ⟨q0, q1⟩ := one_facts t2'; have T2 := hid t2'; have HB2 : Hid (Below W.heap.size W (W2.alloc (.cells #[.int .i64 yo, .string yf, .string yt] 24))) := hid (hb2.alloc hs2 _); clear t2 t2')
        refine ⟨keeps_below HB2.out, ⟨HB2.out.block _ (by omega), HB2.out.block _ (by omega), HB2.out.block _ (by omega)⟩, ?_⟩
        exact ⟨_, d, T2.out, Kind.own_on HOX.out HB2.out, ⟨D ++ [(yo, yf, yt)], HNO.out, by rw [List.length_append, List.length_append, HLN.out]; rfl, HDT.out⟩,
          (HB2.out.block _ (by omega)).trans HK0.out, (HB2.out.block _ (by omega)).trans HK1.out, HB.out.trans (HB2.out.mono HB.out.size), Nat.le_trans hz HB2.out.size, h6⟩
  case done =>
    rintro xs W hS ⟨v, d, k2, hox, ⟨D, hf, hl, hdD⟩, k0, k1, hb, hz, h6⟩ hK
    have hfs : editsW (wordsAns s.data.toList) = some D := by unfold wordsAns; rw [if_neg h0, ← hS]; exact hf
    obtain ⟨f1, f3⟩ := editsW_fit (B := s.size) (plainW xs) (fun l hl => by
      obtain ⟨x, _, rfl⟩ := List.mem_map.1 hl
      simpa using x.2) D hf
    have hdl : d.length ≤ 17 := by rw [hdD, List.length_take]; omega
    have hfit : FitE d := ⟨by unfold maxLen; omega, fun x hx => by
      obtain ⟨a1, a2, a3, a4⟩ := f3 x (by rw [hdD] at hx; exact List.mem_of_mem_take hx)
      refine ⟨?_, ?_, by omega, by omega⟩
      · unfold maxLen; omega
      · unfold maxLen; omega⟩
    have hmy := pmayE_raw v d W (Kind.own_is hox) hfit
    have hmt := may_take D
    rw [← hdD] at hmt
    rw [hmt] at hmy
    obtain ⟨pv, cv, rfl⟩ := Kind.own_shape hox
    obtain ⟨k, hk⟩ : ∃ k, mayE D = k := ⟨_, rfl⟩
    have HDD : Hid (k = 0 → D = d) := fun e => by rw [hdD]; exact (take_short (by rw [hk]; exact e)).symm
    have HCD : Hid (codeL (some D) = k) := hk
    have HAN : Hid (ansL (some D) = if k = 0 then D else []) := by show _ = _; rw [← hk]; rfl
    rw [hk] at hmy
    have HMY := hid hmy
    have HOX := hid hox
    have HK0 := hid k0
    have HK1 := hid k1
    have HK2 := hid k2
    have HB := hid hb
    have HK := hid hK
    have HFS := hid hfs
    have HN6 := hid hN6
    obtain ⟨c2, _⟩ := one_facts k2
    clear hmy hmt hfit hox hf hl hdD k0 k1 k2 hK hN6 hb hfs hk f1 f3
    by_cases hm : k = 0
    · have HZ := hid hm
      subst hm
      gi_wp2_with (refine ⟨trivial, ?_⟩; gi_at_call 7; refine (callsIn_wide.2 HMY.out).mono ?_; rintro e W2 ⟨rfl, hb2⟩; obtain ⟨q0, q1⟩ := one_facts ((hb2.block w.heap.size (by omega)).trans HK0.out); obtain ⟨q2, q3⟩ := one_facts ((hb2.block (w.heap.size + 1) (by omega)).trans HK1.out); obtain ⟨q4, q5⟩ := one_facts ((hb2.block (w.heap.size + 2) (by omega)).trans HK2.out))
      have u0 : Boxed W2 w.heap.size 29 (.slice none 0 0) := (hb2.block w.heap.size (by omega)).trans HK0.out
      have u1 : Boxed W2 (w.heap.size + 1) 26 (.int .i64 0) := (hb2.block (w.heap.size + 1) (by omega)).trans HK1.out
      obtain ⟨W4, hW4⟩ : ∃ W4, (W2.setCell ⟨w.heap.size, 0, none⟩ (.slice pv d.length cv)).setCell ⟨w.heap.size + 1, 0, none⟩ (.int .i64 0) = W4 := ⟨_, rfl⟩
      have y0 : Boxed W4 w.heap.size 29 (.slice pv d.length cv) := by rw [← hW4]; exact Boxed.other (Boxed.set _ u0) (by omega) _
      have y1 : Boxed W4 (w.heap.size + 1) 26 (.int .i64 0) := by rw [← hW4]; exact Boxed.set _ (Boxed.other u1 (by omega) _)
      have hKD : W4.heap[w3.heap.size]? = some (.deferred (some [])) := by
        rw [← hW4]
        exact (Below.heap_setCell _ _ _ _ (by show _ ≠ w.heap.size + 1; omega)).trans ((Below.heap_setCell _ _ _ _ (by show _ ≠ w.heap.size; omega)).trans ((hb2.block _ (by omega)).trans HK.out))
      have hb4 : Below w.heap.size w W4 := by
        rw [← hW4]
        exact ((HB.out.trans (hb2.mono HB.out.size)).setCell (p := ⟨w.heap.size, 0, none⟩) (Nat.le_refl _) _).setCell (p := ⟨w.heap.size + 1, 0, none⟩) (by show _ ≤ w.heap.size + 1; omega) _
      have ha4 : KE.Own (w3.heap.size + 2) W4 (.slice pv d.length cv) d := by
        rw [← hW4]
        exact Kind.own_farE (Kind.own_farE (Kind.own_on HOX.out hb2) (grown_set W2 w.heap.size 0 _) (by omega)) (grown_set _ (w.heap.size + 1) 0 _) (by omega)
      rw [hW4]
      have hsz4 := hb4.size
      have hg5 : W4.grownBy (W4.putObj w3.heap.size (.deferred none)) (some w3.heap.size) := grownBy_putObj' W4 _ _
      have z0 : Boxed (W4.putObj w3.heap.size (.deferred none)) w.heap.size 29 (.slice pv d.length cv) := (World.putObj_heap_other (by omega)).trans y0
      have z1 : Boxed (W4.putObj w3.heap.size (.deferred none)) (w.heap.size + 1) 26 (.int .i64 0) := (World.putObj_heap_other (by omega)).trans y1
      have z0c := z0.cell
      have z1c := z1.cell
      refine ⟨by simp, .inl ⟨_, _, rfl, run_takeDeferred hKD, ?_⟩⟩
      refine ⟨.tuple #[.slice pv d.length cv, .int .i64 0], by simp [results, Tryz.results12, go_sem, z0c, z1c], ⟨.slice pv d.length cv, ?_, ?_⟩, hb4.grown hg5 (by omega) (fun k e => by cases e; omega)⟩
      · rw [HFS.out, HCD.out]
      · rw [HFS.out, HAN.out]
        simp only [if_true]
        rw [HDD.out (by trivial)]
        exact Kind.own_weak (Kind.own_farE ha4 hg5 (by omega)) (by omega)
    · have hne : (k != 0) = true := by rw [bne_iff_ne]; exact hm
      have HNZ := hid hm
      gi_wp2_with (refine ⟨trivial, ?_⟩; gi_at_call 7; refine (callsIn_wide.2 HMY.out).mono ?_; rintro e W2 ⟨rfl, hb2⟩; obtain ⟨q0, q1⟩ := one_facts ((hb2.block w.heap.size (by omega)).trans HK0.out); obtain ⟨q2, q3⟩ := one_facts ((hb2.block (w.heap.size + 1) (by omega)).trans HK1.out))
      have u0 : Boxed W2 w.heap.size 29 (.slice none 0 0) := (hb2.block w.heap.size (by omega)).trans HK0.out
      have u1 : Boxed W2 (w.heap.size + 1) 26 (.int .i64 0) := (hb2.block (w.heap.size + 1) (by omega)).trans HK1.out
      obtain ⟨W4, hW4⟩ : ∃ W4, (W2.setCell ⟨w.heap.size, 0, none⟩ (.slice none 0 0)).setCell ⟨w.heap.size + 1, 0, none⟩ (.int .i64 k) = W4 := ⟨_, rfl⟩
      have y0 : Boxed W4 w.heap.size 29 (.slice none 0 0) := by rw [← hW4]; exact Boxed.other (Boxed.set _ u0) (by omega) _
      have y1 : Boxed W4 (w.heap.size + 1) 26 (.int .i64 k) := by rw [← hW4]; exact Boxed.set _ (Boxed.other u1 (by omega) _)
      have hKD : W4.heap[w3.heap.size]? = some (.deferred (some [])) := by
        rw [← hW4]
        exact (Below.heap_setCell _ _ _ _ (by show _ ≠ w.heap.size + 1; omega)).trans ((Below.heap_setCell _ _ _ _ (by show _ ≠ w.heap.size; omega)).trans ((hb2.block _ (by omega)).trans HK.out))
      have hb4 : Below w.heap.size w W4 := by
        rw [← hW4]
        exact ((HB.out.trans (hb2.mono HB.out.size)).setCell (p := ⟨w.heap.size, 0, none⟩) (Nat.le_refl _) _).setCell (p := ⟨w.heap.size + 1, 0, none⟩) (by show _ ≤ w.heap.size + 1; omega) _
      rw [hW4]
      have hsz4 := hb4.size
      have hg5 : W4.grownBy (W4.putObj w3.heap.size (.deferred none)) (some w3.heap.size) := grownBy_putObj' W4 _ _
      have z0 : Boxed (W4.putObj w3.heap.size (.deferred none)) w.heap.size 29 (.slice none 0 0) := (World.putObj_heap_other (by omega)).trans y0
      have z1 : Boxed (W4.putObj w3.heap.size (.deferred none)) (w.heap.size + 1) 26 (.int .i64 k) := (World.putObj_heap_other (by omega)).trans y1
      have z0c := z0.cell
      have z1c := z1.cell
      refine ⟨by simp, .inl ⟨_, _, rfl, run_takeDeferred hKD, ?_⟩⟩
      refine ⟨.tuple #[.slice none 0 0, .int .i64 k], by simp [results, Tryz.results12, go_sem, z0c, z1c], ⟨.slice none 0 0, ?_, ?_⟩, hb4.grown hg5 (by omega) (fun k e => by cases e; omega)⟩
      · rw [HFS.out, HCD.out]
      · rw [HFS.out, HAN.out, if_neg HNZ.out]
        exact KE.own_nil _ _
  case stop =>
    rintro c pre W hSp ⟨rfl, hf, k0, k1, hb, h6⟩ hK
    have HN6 := hid hN6
    clear hN6
    gi_wp2
    have hg5 : W.grownBy (W.putObj w3.heap.size (.deferred none)) (some w3.heap.size) := grownBy_putObj' W _ _
    have z0 : Boxed (W.putObj w3.heap.size (.deferred none)) w.heap.size 29 (.slice none 0 0) := (World.putObj_heap_other (by omega)).trans k0
    have z1 : Boxed (W.putObj w3.heap.size (.deferred none)) (w.heap.size + 1) 26 (.int .i64 4) := (World.putObj_heap_other (by omega)).trans k1
    have z0c := z0.cell
    have z1c := z1.cell
    have hno : editsW (wordsAns s.data.toList) = none := by
      obtain ⟨r, hr⟩ := hSp
      unfold wordsAns
      rw [if_neg h0, ← hr, editsW_append, hf]; rfl
    refine ⟨by simp, .inl ⟨_, _, rfl, run_takeDeferred hK, ?_⟩⟩
    refine ⟨.tuple #[.slice none 0 0, .int .i64 4], by simp [results, Tryz.results12, go_sem, z0c, z1c], ⟨.slice none 0 0, ?_, ?_⟩, hb.grown hg5 hb.size (fun k e => by cases e; omega)⟩
    · rw [hno]; rfl
    · rw [hno]; exact KE.own_nil _ _

theorem pparseE_plain (s : ByteArray) (w : World) (hp : PlainAt w) (hs : s.size ≤ 4294967000) :
    Calls Tryz.prog 12 #[.string s] w fun e w' => EWPost w (editsW (wordsAns s.data.toList)) e w' := by
  by_cases h0 : s.data.toList = []
  · have e : s = ⟨#[]⟩ := by
      obtain ⟨⟨l⟩⟩ := s
      cases h0
      rfl
    subst e
    exact pparseE_empty w
  · exact pparseE_words s w hp h0 hs

end Go.Proofs.YtelcongbnmfegabGreatDoor

/-
  The walk of the reference's Apply.
-/
namespace Go.Proofs.YtelcongbnmfegabGreatDoor
open Go.RowKit

end Go.Proofs.YtelcongbnmfegabGreatDoor

/-
  The contract of the reference's Print of edits.
-/
namespace Go.Proofs.YtelcongbnmfegabGreatDoor
open Go.RowKit Go.Lib

end Go.Proofs.YtelcongbnmfegabGreatDoor

/-
  The contracts of package patch, in the form that the walks take.
-/
namespace Go.Proofs.YtelcongbnmfegabGreatDoor
open Go.RowKit

/-- What the package's functions want of the variables: the table of plain bytes. -/
def GoodAt (w : World) : Prop := PlainAt w
theorem GoodAt.on {w w' : World} (h : GoodAt w) (hb : Below w.heap.size w w') : GoodAt w' := PlainAt.on h hb

theorem pmayE_any (v : Value) (l : List Ed) (w : World) (hv : KE.Is w v l) (hf : FitE l) (_hp : GoodAt w) : Calls Tryz.prog 7 #[v] w fun e w' => e = .returned (.int .i64 (mayE l)) ∧ Below w.heap.size w w' := pmayE_raw v l w hv hf

theorem papply_any (v u : Value) (d : List Fx) (l : List Ed) (w : World) (hv : IsXs w v d) (hf : FitX d) (hu : KE.Is w u l) (hfl : FitE l) (_hp : GoodAt w) :
    Calls Tryz.prog 5 #[v, u] w fun e w' => ApPost w (d.map Fx.fld) l e w' :=
  (papply_mine v u d l w hv hf hu hfl).mono fun _ _ h => by
    obtain ⟨u, o, h1, h2, h3, h4⟩ := h
    exact ⟨u, o, h1, h2.1.is, h3, h4⟩

theorem pdiff_any (va vb : Value) (da db : List Fx) (w : World) (ha : IsXs w va da) (hb : IsXs w vb db) (hfa : FitX da) (hfb : FitX db) (_hp : GoodAt w) :
    Calls Tryz.prog 10 #[va, vb] w fun e w' => DiPost w (da.map Fx.fld) (db.map Fx.fld) e w' := pdiff_plain va vb da db w ha hb hfa hfb

theorem pprintE_any (v : Value) (p : List Ed) (w : World) (hv : KE.Is w v p) (hf : FitE p) (hp : GoodAt w) :
    Calls Tryz.prog 11 #[v] w fun e w' => e = .returned (.tuple #[.string (prE p), .int .i64 (mayE p)]) ∧ Below w.heap.size w w' := pprintE_plain v p w hp hv hf

theorem pparseE_any (s : ByteArray) (w : World) (hs : s.size ≤ 4294967000) (hp : GoodAt w) :
    Calls Tryz.prog 12 #[.string s] w fun e w' => EWPost w (editsW (wordsAns s.data.toList)) e w' := pparseE_plain s w hp hs

end Go.Proofs.YtelcongbnmfegabGreatDoor
