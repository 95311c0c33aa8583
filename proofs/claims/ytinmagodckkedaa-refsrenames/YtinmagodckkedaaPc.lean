/-
  Texts of this claim, one behind the other: Rnt Kss Ksc Zcmp Zeq Zcomp2 Zord Zsortz Zkrow Zsame Zcompa Zrise Zsorta Rkt Rch Rcw Rpt Rfo Rmp Rbd Rrs Rr1 Rr2 Rr3.
-/
import Derived.Test.YtinmagodckkedaaPb
import Derived.Test.YtinmagodckkedaaPa
import Derived.Shelf.Sort.Plain
import Derived.Shelf.Slices.CompactS
import Derived.Shelf.Slices.In.SortNone
import Derived.Sort.OwnSorted
import Derived.Lib.OwnBridge
import Derived.Deep.RegionHeld3
import Derived.Deep.DrawnRows
import Derived.LoopN
import Derived.Laws.StructEq
import Derived.Deep.QuietTactic
import Derived.BigQuiet
import Derived.Lib.SliceRun
import Derived.Lib.Bytealg
import Derived.Shelf.SlSortCmp.WholeK
import Derived.Shelf.SlicesE.Clone
import Derived.Laws.OwnMore
import Derived.Lib.SlicesCompact
import Derived.Deep.LoopGhost
import Derived.Laws.MakeOwn
import Derived.BigRegion
import Derived.Shelf.SlicesQ.IndexFunc
import Derived.Maps.OwnSet
import Derived.Maps.OwnOps
import Derived.Maps.Views
/-
  The contracts of tempOf and Text of package refs; Named and Temp of the reference.
-/
namespace Go.Proofs.Ytinmagodckkedaa
open Go.RowKit

theorem list_byte (t : ByteArray) (i : Nat) (h : i < t.size) : t.data.toList[i]? = some t[i] := by
  rw [List.getElem?_eq_getElem (by simpa using h)]; rfl

theorem named_byte (t : ByteArray) : (∃ h : 0 < t.size, t[0] = 42) ∧ namedT t = parseT (t.extract 1 t.size) ∨ (∀ h : 0 < t.size, t[0] ≠ 42) ∧ namedT t = none := by
  by_cases h0 : 0 < t.size
  · have e0 := list_byte t 0 h0
    rcases star_cases t with ⟨_, h2, h3⟩ | ⟨h1, h3⟩
    · left
      refine ⟨⟨h0, ?_⟩, h3⟩
      have := congrArg (fun b : ByteArray => b.data.toList) h2
      simp only [ext_head] at this
      have e1 : (t.data.toList.take 1)[0]? = some 42 := by rw [this]; rfl
      rw [List.getElem?_take_of_lt (by omega), e0] at e1
      exact Option.some.inj e1
    · right
      refine ⟨fun _ hc => h1 ⟨h0, ?_⟩, h3⟩
      apply ba_ext
      rw [ext_head]
      cases hl : t.data.toList with
      | nil => rw [hl] at e0; cases e0
      | cons c r =>
        rw [hl] at e0
        have : c = 42 := by rw [← hc]; exact Option.some.inj e0
        rw [this]; rfl
  · right
    refine ⟨fun h => absurd h h0, ?_⟩
    rcases star_cases t with ⟨h1, _⟩ | ⟨_, h3⟩
    · omega
    · exact h3

theorem temp_byte (t : ByteArray) : (∃ h : 1 < t.size, t[0] = 42 ∧ t[1] = 64) ∧ tempT t = (if tempB (t.extract 2 t.size).data.toList = true then some (t.extract 2 t.size) else none) ∨ (∀ h : 1 < t.size, t[0] = 42 → t[1] ≠ 64) ∧ tempT t = none := by
  have hsz : t.size = t.data.toList.length := by simp
  have e2 := ext_tail t 2
  by_cases h1 : 1 < t.size
  · have b0 := list_byte t 0 (by omega)
    have b1 := list_byte t 1 h1
    cases hl : t.data.toList with
    | nil => rw [hl] at b0; cases b0
    | cons c r =>
      cases hr : r with
      | nil => rw [hl, hr] at b1; cases b1
      | cons d q =>
        rw [hl, hr] at b0 b1 e2
        have c0 : t[0] = c := (Option.some.inj b0).symm
        have c1 : t[1] = d := (Option.some.inj b1).symm
        simp only [List.drop_succ_cons, List.drop_zero] at e2
        by_cases hc : c = 42 ∧ d = 64
        · left
          obtain ⟨rfl, rfl⟩ := hc
          refine ⟨⟨h1, c0, c1⟩, ?_⟩
          rw [e2]
          have eq : t.extract 2 t.size = bytesL q := ba_ext (by rw [e2]; rfl)
          unfold tempT
          rw [hl, hr, eq]
          simp only [tempS]
          by_cases h : tempB q = true
          · rw [if_pos h, if_pos h]; rfl
          · rw [if_neg h, if_neg h]; rfl
        · right
          refine ⟨fun _ h0 h => hc ⟨by rw [← c0]; exact h0, by rw [← c1]; exact h⟩, ?_⟩
          unfold tempT
          rw [hl, hr]
          have : tempS (c :: d :: q) = none := by
            unfold tempS
            split
            · next h => simp only [List.cons.injEq] at h; exact absurd ⟨h.1, h.2.1⟩ hc
            · rfl
          rw [this]; rfl
  · right
    refine ⟨fun h => absurd h h1, ?_⟩
    unfold tempT
    cases hl : t.data.toList with
    | nil => rfl
    | cons c r =>
      cases hr : r with
      | nil =>
        have : tempS [c] = none := by
          unfold tempS
          split
          · next h => simp at h
          · rfl
        rw [this]; rfl
      | cons d q => rw [hl, hr] at hsz; simp at hsz; omega

theorem at_ext {t : ByteArray} (h : 1 < t.size) (h0 : t[0] = 42) (h1 : t[1] = 64) : t.extract 0 2 = ⟨#[42, 64]⟩ := by
  apply ba_ext
  rw [ext_head]
  have b0 := list_byte t 0 (by omega)
  have b1 := list_byte t 1 h
  cases hl : t.data.toList with
  | nil => rw [hl] at b0; cases b0
  | cons c r =>
    cases hr : r with
    | nil => rw [hl, hr] at b1; cases b1
    | cons d q =>
      rw [hl, hr] at b0 b1
      have c0 : c = 42 := by rw [← h0]; exact Option.some.inj b0
      have c1 : d = 64 := by rw [← h1]; exact Option.some.inj b1
      rw [c0, c1]; rfl

theorem at_of {t : ByteArray} (h : 1 < t.size) (he : t.extract 0 2 = ⟨#[42, 64]⟩) : t[0] = 42 ∧ t[1] = 64 := by
  have := congrArg (fun b : ByteArray => b.data.toList) he
  simp only [ext_head] at this
  have e0 : (t.data.toList.take 2)[0]? = some 42 := by rw [this]; rfl
  have e1 : (t.data.toList.take 2)[1]? = some 64 := by rw [this]; rfl
  rw [List.getElem?_take_of_lt (by omega), list_byte t 0 (by omega)] at e0
  rw [List.getElem?_take_of_lt (by omega), list_byte t 1 h] at e1
  exact ⟨Option.some.inj e0, Option.some.inj e1⟩

/-- What a text tells: the temporary name, and whether it names one. -/
def TAns (t r : ByteArray) (b : Bool) : Prop := (tempT t = some r ∧ b = true) ∨ (tempT t = none ∧ b = false)

theorem TAns.eq {t r : ByteArray} {b : Bool} (h : TAns t r b) : b = (tempT t).isSome := by
  rcases h with ⟨h, rfl⟩ | ⟨h, rfl⟩ <;> rw [h] <;> rfl

theorem temp_size {t n : ByteArray} (h : tempT t = some n) : n.size ≤ t.size := by
  rcases temp_byte t with ⟨⟨h1, _⟩, h2⟩ | ⟨_, h2⟩
  · rw [h] at h2
    split at h2
    · rw [Option.some.inj h2]; simp
    · cases h2
  · rw [h] at h2; cases h2

set_option maxHeartbeats 1000000 in
theorem tempOf_is (t : ByteArray) (hs : t.size ≤ maxLen) :
    ∃ (r : ByteArray) (b : Bool), TAns t r b ∧ ∀ w, Calls Try.prog 23 #[.string t] w fun e w' => e = .returned (.tuple #[.string r, .bool b]) ∧ ∃ n, w' = w.drewN n := by
  by_cases hp : 2 ≤ t.size ∧ t.extract 0 2 = ⟨#[42, 64]⟩
  · have hcut := hid (fun w => cutp_yes t ⟨#[42, 64]⟩ w hp.1 hp.2)
    have HT := hid (fun w => temp_any (t.extract 2 t.size) w (ext_size t 2 t.size hs))
    obtain ⟨b0, b1⟩ := at_of (show 1 < t.size by omega) hp.2
    have hT : tempT t = if tempB (t.extract 2 t.size).data.toList = true then some (t.extract 2 t.size) else none := by
      rcases temp_byte t with ⟨_, h⟩ | ⟨h, _⟩
      · exact h
      · exact absurd b1 (h (by omega) b0)
    clear b0 b1 hp
    cases hB : tempB (t.extract 2 t.size).data.toList with
    | true =>
      rw [hB, if_pos rfl] at hT
      rw [hB] at HT
      refine ⟨t.extract 2 t.size, true, Or.inl ⟨hT, rfl⟩, fun w => ?_⟩
      clear hT
      go_enter Try.func23, Try.ntmps23
      go_wp2_with (first
        | (go_at_call 42; refine (hcut.out _).mono ?_; rintro e w1 ⟨rfl, n1, rfl⟩)
        | (go_at_call 40; refine (HT.out _).mono ?_; rintro e w2 ⟨rfl, rfl⟩))
      first
      | (go_ret2; exact ⟨rfl, n1, rfl⟩)
      | (go_region_with (first | (go_at_call 40; refine (HT.out _).mono ?_; rintro e w2 ⟨rfl, rfl⟩)); go_wp2_with fail; go_ret2; exact ⟨rfl, _, rfl⟩)
    | false =>
      rw [hB, if_neg (by simp)] at hT
      rw [hB] at HT
      refine ⟨t.extract 2 t.size, false, Or.inr ⟨hT, rfl⟩, fun w => ?_⟩
      clear hT
      go_enter Try.func23, Try.ntmps23
      go_wp2_with (first
        | (go_at_call 42; refine (hcut.out _).mono ?_; rintro e w1 ⟨rfl, n1, rfl⟩)
        | (go_at_call 40; refine (HT.out _).mono ?_; rintro e w2 ⟨rfl, rfl⟩))
      first
      | (go_ret2; exact ⟨rfl, n1, rfl⟩)
      | (go_region_with (first | (go_at_call 40; refine (HT.out _).mono ?_; rintro e w2 ⟨rfl, rfl⟩)); go_wp2_with fail; go_ret2; exact ⟨rfl, _, rfl⟩)
  · have hcut := hid (fun w => cutp_no t ⟨#[42, 64]⟩ w (by decide) hp)
    have hT : tempT t = none := by
      rcases temp_byte t with ⟨⟨h1, h2, h3⟩, _⟩ | ⟨_, h⟩
      · exact absurd ⟨by omega, at_ext h1 h2 h3⟩ hp
      · exact h
    refine ⟨t, false, Or.inr ⟨hT, rfl⟩, fun w => ?_⟩
    clear hT hp
    go_enter Try.func23, Try.ntmps23
    go_wp2_with (first
      | (go_at_call 42; refine (hcut.out _).mono ?_; rintro e w1 ⟨rfl, n1, rfl⟩))
    first
    | (go_ret2; exact ⟨rfl, n1, rfl⟩)
    | (go_region_with (fail); go_wp2_with fail; go_ret2; exact ⟨rfl, _, rfl⟩)

theorem ref_cat (k : Ky) : (⟨#[42]⟩ : ByteArray) ++ (k.1 ++ ⟨#[47]⟩ ++ k.2) = refT k := by
  apply ba_ext
  rw [ba_append, cat_data]
  rfl

theorem ref_cat2 (k : Ky) : (⟨#[42]⟩ : ByteArray) ++ k.1 ++ ⟨#[47]⟩ ++ k.2 = refT k := by
  apply ba_ext
  rw [ba_append, ba_append, ba_append]
  show _ = 42 :: (k.1.data.toList ++ 47 :: k.2.data.toList)
  simp

set_option maxHeartbeats 1000000 in
theorem text_yes (k : Ky) (w : World) (hk : keyOK k = true) :
    Calls Try.prog 19 #[.agg #[.string k.1, .string k.2]] w fun e w' => e = .returned (.tuple #[.string (refT k), .int .i64 0]) ∧ Below w.heap.size w w' := by
  have HE := hid (ref_cat k)
  obtain ⟨a, b⟩ := k
  obtain ⟨h1, h2⟩ := keyB_sizes (a := a) (b := b) hk
  have HP := hid (fun w => nprint_yes a b w (by unfold maxLen; omega) (by unfold maxLen; omega) h1 h2 hk)
  have hz : (a ++ ⟨#[47]⟩ ++ b).size ≤ 65 := by simp; have : (⟨#[47]⟩ : ByteArray).size = 1 := rfl; omega
  obtain ⟨s, hsq⟩ : ∃ s, a ++ ⟨#[47]⟩ ++ b = s := ⟨_, rfl⟩
  rw [hsq] at HP hz
  have HS := hid hsq
  clear hsq hk
  go_enter Try.func19, Try.ntmps19
  go_wp2_with (first | (go_at_call 39; refine (HP.out _).mono ?_; rintro e w2 ⟨rfl, hb2⟩))
  go_ret2
  refine ⟨?_, ((Below.refl _ _).alloc (Nat.le_refl _) _).trans (hb2.mono (by simp))⟩
  rw [← HE.out, ← HS.out]
  rfl

set_option maxHeartbeats 1000000 in
theorem text_no (k : Ky) (w : World) (h1 : k.1.size ≤ maxLen) (h2 : k.2.size ≤ maxLen) (hk : keyOK k = false) :
    Calls Try.prog 19 #[.agg #[.string k.1, .string k.2]] w fun e w' => e = .returned (.tuple #[.string ⟨#[]⟩, .int .i64 2]) ∧ Below w.heap.size w w' := by
  have HP := hid (fun w => nprint_no k.1 k.2 w h1 h2 hk)
  obtain ⟨a, b⟩ := k
  simp only at HP ⊢
  clear hk
  go_enter Try.func19, Try.ntmps19
  go_wp2_with (first | (go_at_call 39; refine (HP.out _).mono ?_; rintro e w2 ⟨rfl, hb2⟩))
  go_ret2
  exact ⟨rfl, ((Below.refl _ _).alloc (Nat.le_refl _) _).trans (hb2.mono (by simp))⟩

end Go.Proofs.Ytinmagodckkedaa

/-
  Texts sorted, and each once: what slices.Sort and slices.Compact leave of a row of one's own.
-/
namespace Go.Proofs.Ytinmagodckkedaa
open Go.RowKit Go.Sort Go.Lib

theorem compact_rise {α : Type} [DecidableEq α] [Inhabited α] {lt : α → α → Bool} (T : Tot lt) {d : Array α} (hle : ∀ i j, i ≤ j → j < d.size → lt d[j]! d[i]! = false) : RisingR lt (compactUpTo d d.size) ∧ ∀ x, x ∈ compactUpTo d d.size ↔ x ∈ d.toList := by
  have key : ∀ m, m ≤ d.size → RisingR lt (compactUpTo d m) ∧ ∀ x, x ∈ compactUpTo d m ↔ ∃ j, j < m ∧ d[j]! = x := by
    intro m
    induction m with
    | zero => intro _; exact ⟨List.Pairwise.nil, fun x => by simp [compactUpTo]⟩
    | succ m ih =>
      intro hm
      obtain ⟨h1, h2⟩ := ih (by omega)
      rw [compactUpTo_succ]
      cases hk : keeps d m with
      | true =>
        rw [if_pos rfl]
        constructor
        · refine List.pairwise_append.2 ⟨h1, List.pairwise_singleton _ _, fun x hx y hy => ?_⟩
          rw [List.mem_singleton] at hy
          subst hy
          obtain ⟨j, hj, rfl⟩ := (h2 x).1 hx
          have hne : d[m]! ≠ d[m - 1]! := by
            unfold keeps at hk
            rcases of_decide_eq_true hk with h | h
            · omega
            · exact h
          have ha := hle j (m - 1) (by omega) (by omega)
          have hb := hle (m - 1) m (by omega) (by omega)
          rcases T.tot d[j]! d[m]! with h | h | h
          · exact h
          · rw [h] at ha
            rcases T.tot d[m - 1]! d[m]! with h' | h' | h'
            · rw [ha] at h'; cases h'
            · exact absurd h'.symm hne
            · rw [hb] at h'; cases h'
          · rw [hle j m (by omega) (by omega)] at h; cases h
        · intro x
          rw [List.mem_append, List.mem_singleton, h2]
          constructor
          · rintro (⟨j, hj, e⟩ | e)
            · exact ⟨j, by omega, e⟩
            · exact ⟨m, by omega, e.symm⟩
          · rintro ⟨j, hj, e⟩
            by_cases hjm : j = m
            · subst hjm; exact Or.inr e.symm
            · exact Or.inl ⟨j, by omega, e⟩
      | false =>
        rw [if_neg (by simp), List.append_nil]
        refine ⟨h1, fun x => ?_⟩
        rw [h2]
        constructor
        · rintro ⟨j, hj, e⟩
          exact ⟨j, by omega, e⟩
        · rintro ⟨j, hj, e⟩
          by_cases hjm : j = m
          · subst hjm
            have hh : ¬ (j = 0 ∨ d[j]! ≠ d[j - 1]!) := by unfold keeps at hk; exact of_decide_eq_false hk
            have h0 : j ≠ 0 := fun e => hh (Or.inl e)
            have h3 : d[j]! = d[j - 1]! := Classical.byContradiction fun e => hh (Or.inr e)
            exact ⟨j - 1, by omega, by rw [← h3]; exact e⟩
          · exact ⟨j, by omega, e⟩
  obtain ⟨h1, h2⟩ := key d.size (Nat.le_refl _)
  refine ⟨h1, fun x => (h2 x).trans ?_⟩
  rw [List.mem_iff_getElem]
  constructor
  · rintro ⟨j, hj, e⟩
    exact ⟨j, by simpa using hj, by rw [← e, getElem!_pos d j hj]; simp⟩
  · rintro ⟨j, hj, e⟩
    have hj' : j < d.size := by simpa using hj
    exact ⟨j, hj', by rw [getElem!_pos d j hj', ← e]; simp⟩

def ltL (a b : List UInt8) : Bool := decide (Lib.compareBytes a b < 0)
theorem ltL_bytes (a b : List UInt8) : ltB (bytesL a) (bytesL b) = ltL a b := rfl
theorem ltL_dec (a b : List UInt8) : ltL a b = decide (a < b) := by unfold ltL; rw [cb_less, bytesLess_eq]
theorem totL : Tot ltL where
  irr a := ltB_irrefl (bytesL a)
  tr a b c h k := ltB_trans (a := bytesL a) (b := bytesL b) (c := bytesL c) h k
  tot a b := by
    rcases ltB_cases (bytesL a) (bytesL b) with h | h | h
    · exact Or.inl h
    · exact Or.inr (Or.inl (by have := congrArg (fun x : ByteArray => x.data.toList) h; simpa [bytesL] using this))
    · exact Or.inr (Or.inr h)

theorem merge_ord (ss : List (List UInt8)) : (ss.mergeSort fun x y => decide (x ≤ y)).Pairwise fun x y => ltL y x = false := by
  have h : (ss.mergeSort fun x y => decide (x ≤ y)).Pairwise fun x y => decide (x ≤ y) = true := by
    refine List.pairwise_mergeSort ?_ ?_ ss
    · intro a b c h1 h2
      simp only [decide_eq_true_eq] at *
      exact List.le_trans h1 h2
    · intro a b
      rcases List.le_total a b with h | h <;> simp [h]
  refine h.imp fun {x y} hxy => ?_
  rw [ltL_dec, decide_eq_false_iff_not]
  exact of_decide_eq_true hxy

theorem rising_bytes {r : List (List UInt8)} (h : RisingR ltL r) : RisingR ltB (r.map bytesL) := by
  unfold RisingR at *
  rw [List.pairwise_map]
  exact h.imp fun {a b} hab => hab

theorem bytes_inj : ∀ {a b : List UInt8}, bytesL a = bytesL b → a = b := fun {a b} h => by
  have := congrArg (fun x : ByteArray => x.data.toList) h
  simpa [bytesL] using this

/-- The texts, rising, each once. -/
def sortT (ts : List ByteArray) : List ByteArray := toldBy ltB some ts

theorem sortT_rising (ts : List ByteArray) : RisingR ltB (sortT ts) := told_rising totB _ _
theorem sortT_mem (ts : List ByteArray) (z : ByteArray) : z ∈ sortT ts ↔ z ∈ ts := by
  unfold sortT
  rw [told_mem totB]
  constructor
  · rintro ⟨t, ht, e⟩; rw [← Option.some.inj e]; exact ht
  · intro h; exact ⟨z, h, rfl⟩

theorem sortT_of {ts r : List ByteArray} (h1 : RisingR ltB r) (h2 : ∀ z, z ∈ r ↔ z ∈ ts) : r = sortT ts :=
  rising_uniqR totB h1 (sortT_rising ts) fun z => (h2 z).trans (sortT_mem ts z).symm

/-- What the sort, and then the doubles' fall, leave. -/
theorem sorted_texts (ts : List ByteArray) : (compactUpTo ((ts.map (·.data.toList)).mergeSort fun x y => decide (x ≤ y)).toArray ((ts.map (·.data.toList)).mergeSort fun x y => decide (x ≤ y)).toArray.size).map bytesL = sortT ts := by
  obtain ⟨m, hm⟩ : ∃ m, (ts.map (·.data.toList)).mergeSort (fun x y => decide (x ≤ y)) = m := ⟨_, rfl⟩
  have hord := merge_ord (ts.map (·.data.toList))
  have hperm : (((ts.map (·.data.toList)).mergeSort fun x y => decide (x ≤ y))).Perm (ts.map (·.data.toList)) := List.mergeSort_perm _ _
  rw [hm] at hord hperm ⊢
  obtain ⟨h1, h2⟩ := compact_rise (d := m.toArray) totL (fun i j hij hj => by
    have hj' : j < m.length := by simpa using hj
    rw [getElem!_pos m.toArray j hj, getElem!_pos m.toArray i (by omega)]
    simp only [List.getElem_toArray]
    rcases Nat.lt_or_eq_of_le hij with h | h
    · exact List.pairwise_iff_getElem.1 hord i j (by omega) hj' h
    · subst h; exact totL.irr _)
  refine sortT_of (rising_bytes h1) fun z => ?_
  rw [List.mem_map]
  constructor
  · rintro ⟨a, ha, rfl⟩
    have := (h2 a).1 ha
    simp only at this
    obtain ⟨t, ht, e⟩ := List.mem_map.1 (hperm.mem_iff.1 this)
    rw [← e]
    exact ht
  · intro hz
    exact ⟨z.data.toList, (h2 _).2 (hperm.mem_iff.2 (List.mem_map.2 ⟨z, hz, rfl⟩)), rfl⟩

end Go.Proofs.Ytinmagodckkedaa

/-
  The contracts of slices.Sort and slices.Compact at rows of texts of one's own.
-/
namespace Go.Proofs.Ytinmagodckkedaa
open Go.RowKit Go.Sort Go.Lib

def orderT (ts : List ByteArray) : List ByteArray := ((ts.map (·.data.toList)).mergeSort fun x y => decide (x ≤ y)).map bytesL
def onceT (ts : List ByteArray) : List ByteArray := (Lib.compact (ts.map (·.data.toList))).map bytesL

theorem bytes_lists (l : List (List UInt8)) : (l.map bytesL).map (·.data.toList) = l := by
  rw [List.map_map]
  conv => rhs; rw [← List.map_id l]
  rfl

theorem order_once (ts : List ByteArray) : onceT (orderT ts) = sortT ts := by
  unfold onceT orderT
  rw [bytes_lists]
  have := sorted_texts ts
  simpa [Lib.compact] using this

theorem encStr_bytes (l : List (List UInt8)) : l.map encStr = (l.map bytesL).map Value.string := by
  rw [← map_encStr, bytes_lists]

theorem orderT_len (ts : List ByteArray) : (orderT ts).length = ts.length := by
  unfold orderT
  rw [List.length_map, List.length_mergeSort, List.length_map]

theorem sortS_own (n0 : Nat) (u : Value) (ts : List ByteArray) (w : World) (h : OwnT n0 w u ts) (h0 : n0 ≤ w.heap.size) (hl : ts.length ≤ 4000000) :
    Calls Try.prog 34 #[u] w fun e w' => e = .returned (.tuple #[]) ∧ OwnT n0 w' u (orderT ts) ∧ Below n0 w w' := by
  rcases h.2 with ⟨rfl, hz⟩ | ⟨g, cap, cur, rfl, hb, hg, hn, hm, hs, ht⟩
  · obtain rfl := List.length_eq_zero_iff.1 hz
    refine (Try.slices_Sort_string_none _ _ w).mono ?_
    rintro e w' ⟨rfl, rfl⟩
    refine ⟨rfl, ?_, Below.refl _ _⟩
    have : orderT [] = [] := by have := orderT_len []; exact List.length_eq_zero_iff.1 this
    rw [this]
    exact h
  · obtain ⟨ss, hss⟩ : ∃ ss, ts.map (·.data.toList) = ss := ⟨_, rfl⟩
    have hsl : ss.length = ts.length := by rw [← hss, List.length_map]
    have hh : w.ownsRow n0 9 1 (.slice (some ⟨g, 0, none⟩) ts.length cap) ts.length (ss.map encStr) := by rw [← hss, map_encStr]; exact h
    obtain ⟨g', cap', e0, _, hgl, _, _, _, hH⟩ := holds_of_ownsRow hh (by simp)
    injection e0 with e1 _ e3
    injection e1 with e1
    injection e1 with e1
    subst e1 e3
    have hc := Try.slices_Sort_string g 0 cap ss w hH hgl (by omega)
    rw [hsl] at hc
    refine hc.mono ?_
    rintro e w' ⟨rfl, n, os, rfl⟩
    have hl2 : (ss.mergeSort fun x y => decide (x ≤ y)).length = ss.length := List.length_mergeSort ss
    refine ⟨rfl, ?_, (Below.refl _ _).grown (grownBy_sorted _) h0 (fun k hk => by cases hk; exact hb)⟩
    have := ownsRow_sorted (n := n) (os := os) (ts := ss.mergeSort fun x y => decide (x ≤ y)) (cap := cap) hl2 hb hg (by omega) hm hs
    unfold OwnT
    rw [orderT_len]
    unfold orderT
    rw [hss, ← encStr_bytes, ← hsl]
    exact this

theorem onceT_len (ts : List ByteArray) : (onceT ts).length ≤ ts.length := by
  unfold onceT
  rw [List.length_map]
  have := Lib.compact_length_le (ts.map (·.data.toList))
  rwa [List.length_map] at this

theorem compS_own (n0 : Nat) (u : Value) (ts : List ByteArray) (w : World) (h : OwnT n0 w u ts) (h0 : n0 ≤ w.heap.size) (hl : ts.length ≤ 4000000) :
    Calls Try.prog 35 #[u] w fun e w' => ∃ u', e = .returned u' ∧ OwnT n0 w' u' (onceT ts) ∧ Below n0 w w' := by
  rcases h.2 with ⟨rfl, hz⟩ | ⟨g, cap, cur, rfl, hb, hg, hn, hm, hs, ht⟩
  · obtain rfl := List.length_eq_zero_iff.1 hz
    refine (Any.slices_Compact_string_empty Try.laysCompact _ _ w).mono ?_
    rintro e w' ⟨rfl, rfl⟩
    have : onceT [] = [] := by have := onceT_len []; exact List.length_eq_zero_iff.1 (by simpa using this)
    refine ⟨_, rfl, ?_, Below.refl _ _⟩
    rw [this]
    exact h
  · obtain ⟨ss, hss⟩ : ∃ ss, ts.map (·.data.toList) = ss := ⟨_, rfl⟩
    have hsl : ss.length = ts.length := by rw [← hss, List.length_map]
    have hh : w.ownsRow n0 9 1 (.slice (some ⟨g, 0, none⟩) ts.length cap) ts.length (ss.map encStr) := by rw [← hss, map_encStr]; exact h
    obtain ⟨g', cap', e0, _, hgl, _, _, _, hH⟩ := holds_of_ownsRow hh (by simp)
    injection e0 with e1 _ e3
    injection e1 with e1
    injection e1 with e1
    subst e1 e3
    have hc := Try.slices_Compact_string g 0 cap ss w hH (by omega) (by omega)
    rw [hsl] at hc
    refine hc.mono ?_
    rintro e w' ⟨rfl, q, rfl⟩
    have hle := Lib.compact_length_le ss
    have ho : (onceT ts).length = (Lib.compact ss).length := by unfold onceT; rw [hss, List.length_map]
    refine ⟨_, rfl, ?_, below_putRow (Below.refl _ _) hb⟩
    have := ownsRow_putRow (q := q) (k := (Lib.compact ss).length) (ys := Lib.compact ss ++ List.replicate (ts.length - (Lib.compact ss).length) []) hh (by simp; omega) (by omega)
    rw [List.take_left] at this
    unfold OwnT
    rw [ho]
    unfold onceT
    rw [hss, ← encStr_bytes]
    exact this

end Go.Proofs.Ytinmagodckkedaa

/-
  The contracts of cmp.Or and of Compare of package name.
-/
namespace Go.Proofs.Ytinmagodckkedaa.Z
open Go.RowKit

def orI (x y : Int) : Int := if x = 0 then y else x

set_option maxHeartbeats 400000 in
theorem zor_any (x y : Int) (b : Nat) (w : World) (h0 : w.cell? ⟨b, 0, none⟩ = some (.int .i64 x)) (h1 : w.cell? ⟨b, 1, none⟩ = some (.int .i64 y)) :
    Calls Try.prog 73 #[.slice (some ⟨b, 0, none⟩) 2 2] w fun e w' => e = .returned (.int .i64 (orI x y)) ∧ w' = w := by
  by_cases hx : x = 0
  · have HO : Hid (orI x y = y) := if_pos hx
    subst hx
    by_cases hy : y = 0
    · subst hy
      go_enter Try.func73, Try.ntmps73
      go_wp2
      refine wp_loop_rounds 3 ?_
      rw [rounds_succ]; go_wp2
      rw [rounds_succ]; go_wp2
      rw [rounds_succ]; go_wp2
      go_ret
      exact ⟨ret_int HO.out.symm, rfl⟩
    · have hyb : (y != 0) = true := by simp [hy]
      clear hy
      go_enter Try.func73, Try.ntmps73
      go_wp2
      refine wp_loop_rounds 3 ?_
      rw [rounds_succ]; go_wp2
      rw [rounds_succ]; go_wp2
      go_ret
      exact ⟨ret_int HO.out.symm, rfl⟩
  · have HO : Hid (orI x y = x) := if_neg hx
    have hxb : (x != 0) = true := by simp [hx]
    clear hx
    go_enter Try.func73, Try.ntmps73
    go_wp2
    refine wp_loop_rounds 3 ?_
    rw [rounds_succ]; go_wp2
    go_ret
    exact ⟨ret_int HO.out.symm, rfl⟩

attribute [local go_sem ↓] Go.wp_at_zero Go.wp_at_succ

def cmpI (a b c d : ByteArray) : Int := orI (Lib.compareBytes a.data.toList c.data.toList) (Lib.compareBytes b.data.toList d.data.toList)

set_option maxHeartbeats 800000 in
theorem compare_eq (a b c d : ByteArray) (w : World) :
    Calls Try.prog 53 #[.agg #[.string a, .string b], .agg #[.string c, .string d]] w fun e w' => e = .returned (.int .i64 (cmpI a b c d)) ∧
      w' = (((w.alloc (.cells #[.string a, .string b] 31)).alloc (.cells #[.string c, .string d] 31)).alloc (.cells #[.int .i64 (Lib.compareBytes a.data.toList c.data.toList), .int .i64 (Lib.compareBytes b.data.toList d.data.toList)] 3)).drew := by
  have HO : Hid (cmpI a b c d = orI (Lib.compareBytes a.data.toList c.data.toList) (Lib.compareBytes b.data.toList d.data.toList)) := rfl
  go_enter Try.func53, Try.ntmps53
  go_wp2_with fail
  go_region_held3 (fun w' => w'.cell? ⟨w.heap.size, 0, none⟩ = some (.string a) ∧ w'.cell? ⟨w.heap.size, 1, none⟩ = some (.string b) ∧ w'.cell? ⟨w.heap.size + 1, 0, none⟩ = some (.string c) ∧ w'.cell? ⟨w.heap.size + 1, 1, none⟩ = some (.string d)) (go_keep) (first | (go_at_call 74; refine (Try.strings_Compare _ _ _).mono ?_; rintro e w' ⟨rfl, rfl⟩) | (go_at_call 73; refine (zor_any (Lib.compareBytes a.data.toList c.data.toList) (Lib.compareBytes b.data.toList d.data.toList) _ _ ?_ ?_).mono ?_; (simp [go_sem]); (simp [go_sem]); rintro e w' ⟨rfl, rfl⟩))
  all_goals
    go_wp2
    go_ret
    exact ⟨ret_int HO.out.symm, rfl⟩

theorem zcompare_any (a b c d : ByteArray) (w : World) :
    Calls Try.prog 53 #[.agg #[.string a, .string b], .agg #[.string c, .string d]] w fun e w' => e = .returned (.int .i64 (cmpI a b c d)) ∧ Below w.heap.size w w' :=
  (compare_eq a b c d w).mono fun e w' ⟨h1, h2⟩ => ⟨h1, by rw [h2]; exact ((((Below.refl _ _).alloc (Nat.le_refl _) _).alloc (by simp) _).alloc (by simp; omega) _).drew⟩

end Go.Proofs.Ytinmagodckkedaa.Z

/-
  What == and != say of two keys.
-/
namespace Go.Proofs.Ytinmagodckkedaa.Z
open Go.RowKit

def eqK (a b c d : ByteArray) : Bool := a.toList == c.toList && b.toList == d.toList

theorem eql_key (a b c d : ByteArray) (w : World) : (binOp .eql 31 (.agg #[.string a, .string b]) (.agg #[.string c, .string d])).run Try.prog w = .ok (.bool (eqK a b c d)) w := by
  have u9 := Try.underlying9
  have a9 := Try.isAgg9
  have z9 := Try.sizeOf9
  have hS : Try.prog.underlying 31 = some (.struct (Try.prog.fieldsOf 31)) := by kernel_rfl
  have hp : Try.prog.stoodInHeld 31 = false := by kernel_rfl
  rw [run_eql_struct, show (10000 : Nat) = 9999 + 1 from rfl, run_equalIn_agg w 9999 31 _ _ hS hp]
  simp only [Program.fieldsOf, Try.underlying31]
  go_simp
  unfold eqK
  by_cases h1 : a.toList = c.toList <;> by_cases h2 : b.toList = d.toList <;> simp [h1, h2]

theorem neq_key (a b c d : ByteArray) (w : World) : (binOp .neq 31 (.agg #[.string a, .string b]) (.agg #[.string c, .string d])).run Try.prog w = .ok (.bool (!eqK a b c d)) w := by
  have u9 := Try.underlying9
  have a9 := Try.isAgg9
  have z9 := Try.sizeOf9
  have hS : Try.prog.underlying 31 = some (.struct (Try.prog.fieldsOf 31)) := by kernel_rfl
  have hp : Try.prog.stoodInHeld 31 = false := by kernel_rfl
  rw [run_neq_struct, show (10000 : Nat) = 9999 + 1 from rfl, run_equalIn_agg w 9999 31 _ _ hS hp]
  simp only [Program.fieldsOf, Try.underlying31]
  go_simp
  unfold eqK
  by_cases h1 : a.toList = c.toList <;> by_cases h2 : b.toList = d.toList <;> simp [h1, h2]

end Go.Proofs.Ytinmagodckkedaa.Z

/-
  slices.Compact at two keys that are one.
-/
namespace Go.Proofs.Ytinmagodckkedaa.Z
open Go.RowKit

theorem zero_cells (e : Value) (n : Nat) : (Builtin.zeroCells #[e, e] n).toList = List.replicate (n * 2) e := by
  apply List.ext_getElem
  · simp [Builtin.zeroCells]
  · intro i h1 h2
    simp [Builtin.zeroCells]
    rcases Nat.mod_two_eq_zero_or_one i with h | h <;> simp [h]

theorem run_clear_key (w : World) (ty : TypeId) (b o n c : Nat) (hn : 0 < n)
    (hc : ∀ j, j < n * 2 → (w.cell? ⟨b, o + j, none⟩).isSome = true) (hf : ∀ j, j < n * 2 → w.frozen? ⟨b, o + j, none⟩ = false) :
    (Builtin.clear_ #[48] ty #[.slice (some ⟨b, o, none⟩) n c]).run Try.prog w = .ok (.tuple #[]) (w.setCells b o (List.replicate (n * 2) (.string ⟨#[]⟩))) := by
  have hst := run_storeCells_cells (P := Try.prog) b o (List.replicate (n * 2) (.string ⟨#[]⟩)) 0 w (by simpa using hc) (by simpa using hf) (by intro v hv'; rw [List.eq_of_mem_replicate hv']; rfl)
  simp only [Nat.add_zero] at hst
  have hz := zero_cells (.string ⟨#[]⟩) n
  obtain ⟨m, rfl⟩ : ∃ m, n = m + 1 := ⟨n - 1, by omega⟩
  simp [Builtin.clear_, run_underlying Try.underlying48, Try.zeroValue31, Value.cells, hz, hst]

theorem below_setCells {B : Nat} {w w' : World} (b : Nat) (hb : B ≤ b) : ∀ (vs : List Value) (o : Nat), Below B w w' → Below B w (w'.setCells b o vs)
  | [], _, h => h
  | v :: vs, o, h => by
    unfold World.setCells
    exact below_setCells (w' := w'.setCell ⟨b, o, none⟩ v) b hb vs (o + 1) (h.setCell hb v)

theorem eqK_self (a b : ByteArray) : eqK a b a b = true := by simp [eqK]

set_option maxHeartbeats 1000000 in
theorem compact_two (a b : ByteArray) (g c : Nat) (w : World) (hc : 2 ≤ c) (hc' : c ≤ maxLen)
    (h0 : w.cell? ⟨g, 0, none⟩ = some (.string a)) (h1 : w.cell? ⟨g, 1, none⟩ = some (.string b)) (h2 : w.cell? ⟨g, 2, none⟩ = some (.string a)) (h3 : w.cell? ⟨g, 3, none⟩ = some (.string b))
    (f2 : w.frozen? ⟨g, 2, none⟩ = false) (f3 : w.frozen? ⟨g, 3, none⟩ = false) :
    Calls Try.prog 54 #[.slice (some ⟨g, 0, none⟩) 2 c] w fun e w' => e = .returned (.slice (some ⟨g, 0, none⟩) 1 c) ∧ Below g w w' := by
  unfold maxLen at hc'
  have heq := fun a b c d w => eql_key a b c d w
  have hk := eqK_self a b
  have hcl : ∀ nq ty, (Builtin.clear_ #[48] ty #[.slice (some ⟨g, 2, none⟩) 1 (c - 1)]).run Try.prog (w.drewN nq) = .ok (.tuple #[]) ((w.drewN nq).setCells g 2 (List.replicate (1 * 2) (.string ⟨#[]⟩))) := by
    intro nq ty
    refine run_clear_key (w.drewN nq) ty g 2 1 (c - 1) (by omega) ?_ ?_
    · intro j hj
      rcases (show j = 0 ∨ j = 1 by omega) with rfl | rfl
      · show (w.cell? ⟨g, 2, none⟩).isSome = true; rw [h2]; rfl
      · show (w.cell? ⟨g, 3, none⟩).isSome = true; rw [h3]; rfl
    · intro j hj
      rcases (show j = 0 ∨ j = 1 by omega) with rfl | rfl
      · exact f2
      · exact f3
  generalize List.replicate (1 * 2) (Value.string ⟨#[]⟩) = zs at hcl
  go_enter Try.func54, Try.ntmps54
  go_wp2_with fail
  refine wp_loop_rounds 1 ?_
  rw [rounds_succ]
  go_wp2_with fail
  go_quiet (fail)
  go_wp2_with fail
  refine wp_loop_rounds 1 ?_
  rw [rounds_succ]
  go_wp2_with fail
  go_ret
  exact ⟨rfl, below_setCells g (Nat.le_refl _) _ _ (below_drewN (Below.refl _ _) _)⟩

end Go.Proofs.Ytinmagodckkedaa.Z

/-
  The order of keys, in plain lists of bytes.
-/
namespace Go.Proofs.Ytinmagodckkedaa.Z

theorem cb_self (a : List UInt8) : Lib.compareBytes a a = 0 := by
  induction a with
  | nil => rfl
  | cons x a ih => unfold Lib.compareBytes; simp [ih]

theorem cb_zero (a b : List UInt8) : Lib.compareBytes a b = 0 ↔ a = b := by
  constructor
  · induction a generalizing b with
    | nil => cases b with
      | nil => intro _; rfl
      | cons y b => intro h; simp [Lib.compareBytes] at h
    | cons x a ih => cases b with
      | nil => intro h; simp [Lib.compareBytes] at h
      | cons y b =>
        intro h
        unfold Lib.compareBytes at h
        split at h
        · simp at h
        · split at h
          · simp at h
          · rename_i h1 h2
            have : x = y := by
              apply UInt8.toNat_inj.1
              rw [UInt8.lt_iff_toNat_lt] at h1 h2
              omega
            rw [this, ih b h]
  · rintro rfl; exact cb_self a

theorem cb_neg (a b : List UInt8) : Lib.compareBytes b a = - Lib.compareBytes a b := by
  induction a generalizing b with
  | nil => cases b <;> simp [Lib.compareBytes]
  | cons x a ih => cases b with
    | nil => simp [Lib.compareBytes]
    | cons y b =>
      unfold Lib.compareBytes
      by_cases h1 : x < y
      · have h2 : ¬ y < x := by rw [UInt8.lt_iff_toNat_lt] at h1 ⊢; omega
        simp [h1, h2]
      · by_cases h2 : y < x
        · simp [h1, h2]
        · simp [h1, h2, ih b]

theorem cb_range (a b : List UInt8) : Lib.compareBytes a b = -1 ∨ Lib.compareBytes a b = 0 ∨ Lib.compareBytes a b = 1 := by
  induction a generalizing b with
  | nil => cases b <;> simp [Lib.compareBytes]
  | cons x a ih => cases b with
    | nil => simp [Lib.compareBytes]
    | cons y b =>
      unfold Lib.compareBytes
      by_cases h1 : x < y
      · simp [h1]
      · by_cases h2 : y < x
        · simp [h1, h2]
        · simpa [h1, h2] using ih b

theorem cb_lt_trans (a b c : List UInt8) (h1 : Lib.compareBytes a b < 0) (h2 : Lib.compareBytes b c < 0) : Lib.compareBytes a c < 0 := by
  induction a generalizing b c with
  | nil => cases c with
    | nil => cases b <;> simp [Lib.compareBytes] at h1 h2
    | cons z c => simp [Lib.compareBytes]
  | cons x a ih => cases b with
    | nil => simp [Lib.compareBytes] at h1
    | cons y b => cases c with
      | nil => simp [Lib.compareBytes] at h2
      | cons z c =>
        unfold Lib.compareBytes at h1 h2 ⊢
        simp only [UInt8.lt_iff_toNat_lt] at h1 h2 ⊢
        by_cases p1 : x.toNat < y.toNat
        · by_cases q1 : y.toNat < z.toNat
          · rw [if_pos (by omega)]; decide
          · rw [if_neg q1] at h2
            by_cases q2 : z.toNat < y.toNat
            · rw [if_pos q2] at h2; simp at h2
            · rw [if_pos (by omega)]; decide
        · rw [if_neg p1] at h1
          by_cases p2 : y.toNat < x.toNat
          · rw [if_pos p2] at h1; simp at h1
          · rw [if_neg p2] at h1
            by_cases q1 : y.toNat < z.toNat
            · rw [if_pos (by omega)]; decide
            · rw [if_neg q1] at h2
              by_cases q2 : z.toNat < y.toNat
              · rw [if_pos q2] at h2; simp at h2
              · rw [if_neg q2] at h2
                rw [if_neg (by omega), if_neg (by omega)]
                exact ih b c h1 h2

theorem cb_less (a b : List UInt8) : decide (Lib.compareBytes a b < 0) = Op.bytesLess a b := by
  induction a generalizing b with
  | nil => cases b <;> simp [Lib.compareBytes, Op.bytesLess]
  | cons x a ih => cases b with
    | nil => simp [Lib.compareBytes, Op.bytesLess]
    | cons y b =>
      unfold Lib.compareBytes Op.bytesLess
      rw [← ih b]
      by_cases h1 : x < y
      · simp [h1]
      · by_cases h2 : y < x
        · have hne : (x == y) = false := by
            rw [beq_eq_false_iff_ne]; rintro rfl; exact h1 h2
          simp [h1, h2, hne]
        · have he : x = y := by
            apply UInt8.toNat_inj.1
            rw [UInt8.lt_iff_toNat_lt] at h1 h2
            omega
          simp [he]

/-- The order of pairs: by the first, then by the second. -/
def pairI (x y : Int) : Int := if x = 0 then y else x

def cmpL (a b c d : List UInt8) : Int := pairI (Lib.compareBytes a c) (Lib.compareBytes b d)

theorem cmpL_cases (a b c d : List UInt8) : (a = c ∧ cmpL a b c d = Lib.compareBytes b d) ∨ (a ≠ c ∧ Lib.compareBytes a c ≠ 0 ∧ cmpL a b c d = Lib.compareBytes a c) := by
  unfold cmpL pairI
  by_cases h : Lib.compareBytes a c = 0
  · left; exact ⟨(cb_zero a c).1 h, by rw [if_pos h]⟩
  · right; exact ⟨fun e => h ((cb_zero a c).2 e), h, by rw [if_neg h]⟩

theorem cmpL_neg (a b c d : List UInt8) : cmpL c d a b = - cmpL a b c d := by
  unfold cmpL pairI
  rw [cb_neg a c, cb_neg b d]
  by_cases h : Lib.compareBytes a c = 0
  · rw [if_pos h, if_pos (by omega)]
  · rw [if_neg h, if_neg (by omega)]

theorem cmpL_range (a b c d : List UInt8) : cmpL a b c d = -1 ∨ cmpL a b c d = 0 ∨ cmpL a b c d = 1 := by
  rcases cmpL_cases a b c d with ⟨_, h⟩ | ⟨_, _, h⟩ <;> rw [h] <;> exact cb_range _ _

theorem cmpL_zero (a b c d : List UInt8) : cmpL a b c d = 0 ↔ a = c ∧ b = d := by
  rcases cmpL_cases a b c d with ⟨h1, h⟩ | ⟨h1, h2, h⟩
  · rw [h, cb_zero]; exact ⟨fun e => ⟨h1, e⟩, fun e => e.2⟩
  · rw [h]; exact ⟨fun e => absurd e h2, fun e => absurd e.1 h1⟩

theorem cmpL_lt_trans (a b c d e f : List UInt8) (h1 : cmpL a b c d < 0) (h2 : cmpL c d e f < 0) : cmpL a b e f < 0 := by
  rcases cmpL_cases a b c d with ⟨p1, p⟩ | ⟨p1, _, p⟩ <;> rcases cmpL_cases c d e f with ⟨q1, q⟩ | ⟨q1, _, q⟩ <;> rcases cmpL_cases a b e f with ⟨r1, r⟩ | ⟨r1, _, r⟩ <;> rw [p] at h1 <;> rw [q] at h2 <;> rw [r]
  · exact cb_lt_trans _ _ _ h1 h2
  · exact absurd (p1.trans q1) r1
  · exact absurd (p1.symm.trans r1) q1
  · rw [p1]; exact h2
  · exact absurd (r1.trans q1.symm) p1
  · rw [← q1]; exact h1
  · have := cb_lt_trans _ _ _ h1 h2; rw [r1, cb_self] at this; omega
  · exact cb_lt_trans _ _ _ h1 h2

theorem cmpL_le_trans (a b c d e f : List UInt8) (h1 : cmpL a b c d ≤ 0) (h2 : cmpL c d e f ≤ 0) : cmpL a b e f ≤ 0 := by
  by_cases p : cmpL a b c d = 0
  · obtain ⟨rfl, rfl⟩ := (cmpL_zero _ _ _ _).1 p; exact h2
  · by_cases q : cmpL c d e f = 0
    · obtain ⟨rfl, rfl⟩ := (cmpL_zero _ _ _ _).1 q; exact h1
    · have := cmpL_lt_trans a b c d e f (by omega) (by omega); omega

/-- What the document says: by the type, then by the id, each by bytes. -/
theorem cmpL_less (a b c d : List UInt8) : decide (cmpL a b c d < 0) = (Op.bytesLess a c || (a == c && Op.bytesLess b d)) := by
  rw [← cb_less, ← cb_less]
  rcases cmpL_cases a b c d with ⟨h1, h⟩ | ⟨h1, h2, h⟩
  · subst h1; rw [h, cb_self]; simp
  · have hne : (a == c) = false := beq_eq_false_iff_ne.2 h1
    rw [h, hne]; simp

end Go.Proofs.Ytinmagodckkedaa.Z

/-
  Sort of package name at two keys that are one.
-/
namespace Go.Proofs.Ytinmagodckkedaa.Z
open Go.RowKit Go.Sort Go.Lib

def encKey (x : ByteArray × ByteArray) : List Value := [.string x.1, .string x.2]
def cmpK (x y : ByteArray × ByteArray) : Int := cmpI x.1 x.2 y.1 y.2

theorem cmpI_eq (a b c d : ByteArray) : cmpI a b c d = cmpL a.data.toList b.data.toList c.data.toList d.data.toList := rfl

theorem ltK (x y : ByteArray × ByteArray) : ltOf cmpK x y = decide (cmpL x.1.data.toList x.2.data.toList y.1.data.toList y.2.data.toList < 0) := rfl

theorem swoK : SWO (ltOf cmpK) where
  irrefl x := by rw [ltK, (cmpL_zero _ _ _ _).2 ⟨rfl, rfl⟩]; rfl
  trans x y z h1 h2 := by
    rw [ltK, decide_eq_true_iff] at *
    exact cmpL_lt_trans _ _ _ _ _ _ h1 h2
  ntrans x y z h1 h2 := by
    rw [ltK, decide_eq_false_iff_not] at *
    intro h
    have n1 := cmpL_neg x.1.data.toList x.2.data.toList y.1.data.toList y.2.data.toList
    have n2 := cmpL_neg y.1.data.toList y.2.data.toList z.1.data.toList z.2.data.toList
    have n3 := cmpL_neg x.1.data.toList x.2.data.toList z.1.data.toList z.2.data.toList
    have := cmpL_le_trans z.1.data.toList z.2.data.toList y.1.data.toList y.2.data.toList x.1.data.toList x.2.data.toList (by omega) (by omega)
    omega

theorem three_new (W : World) (o1 o2 o3 : Obj) : (((W.alloc o1).alloc o2).alloc o3).drew = grow (W.drewN 1) #[o1, o2, o3] := by
  rw [alloc_eq_grow, alloc_eq_grow, alloc_eq_grow, grow_grow, grow_grow]; rfl

theorem cmpLaysK (blk off size : Nat) (w : World) : CmpLays Try.prog 53 #[] encKey 2 cmpK blk off size w :=
  fun _ _ _ _ x y => (compare_eq x.1 x.2 y.1 y.2 _).mono fun _ _ ⟨h1, h2⟩ => ⟨h1, 1, _, h2.trans (three_new _ _ _ _)⟩

theorem enters23 : ∀ args w, (callFunc 53 args).run Try.prog w = .ok (.enter 53 args) w := enters_of Try.func53 (by kernel_rfl) rfl

theorem zsortfunc_any (blk off cap : Nat) (d : Array (ByteArray × ByteArray)) (w : World) (hH : HoldsK encKey 2 w blk off d) (hblk : blk < w.heap.size) (hsz : d.size < 4611686018427387904) :
    Calls Try.prog 52 #[.slice (some ⟨blk, off, none⟩) d.size cap, .func (.func 53) #[] #[]] w fun e w' =>
      e = .returned (.tuple #[]) ∧ ∃ d' n os, PermIn 0 d.size d d' ∧ SortedIn (ltOf cmpK) 0 d.size d' ∧ w' = sortWorldK encKey 2 w blk off n d' os :=
  AnyQ.slices_SortFunc Try.sortKey 2 Try.isAgg31 Try.sizeOf31 encKey (fun _ => rfl) (fun x v hv => by simp [encKey] at hv; rcases hv with rfl | rfl <;> rfl) cmpK swoK 53 #[] blk off cap d w enters23 (cmpLaysK blk off d.size w) hH hblk hsz

theorem zclone_any (b off n c : Nat) (news : List Value) (w : World) (hl : news.length = n * 2) (hn : n ≤ maxLen) (hbig : n * 32 ≤ 140737488355328)
    (hc : ∀ j u, news[j]? = some u → w.cell? ⟨b, off + j, none⟩ = some u) (h1 : ∀ u ∈ news, u.oneCell' = true) :
    Calls Try.prog 51 #[.slice (some ⟨b, off, none⟩) n c] w fun e w' => ∃ v', e = .returned v' ∧ w'.ownsRow w.heap.size 31 2 v' n news ∧ v' ≠ .slice none 0 0 ∧ Below w.heap.size w w' := by
  have hs : (Try.prog.info? 31).isSome = true := by kernel_rfl
  have hi : ∃ i0, Try.prog.info? 31 = some i0 ∧ i0.zero = some (.agg #[.string ⟨#[]⟩, .string ⟨#[]⟩]) ∧ i0.size = 2 ∧ i0.bytes = 32 :=
    ⟨(Try.prog.info? 31).get hs, (Option.some_get hs).symm, by kernel_rfl, by kernel_rfl, by kernel_rfl⟩
  obtain ⟨i0, e1, e2, e3, e4⟩ := hi
  exact AnyE.slices_Clone Try.cloneKey i0 _ 2 32 e1 e2 e3 e4 rfl (by omega) Try.sizeOf31 b off n c news w hl hn hbig hc h1

/-- The cells of a row of keys. -/
def cellsK (d : Array (ByteArray × ByteArray)) : List Value := d.toList.flatMap encKey

theorem below_sortWorld {B : Nat} {w0 w : World} (h : Below B w0 w) (hB : B ≤ w.heap.size) (blk off n : Nat) (d : Array (ByteArray × ByteArray)) (os : Array Obj) (hb : B ≤ blk) : Below B w0 (sortWorldK encKey 2 w blk off n d os) := by
  refine h.trans ⟨rfl, rfl, rfl, ?_, ?_⟩
  · simp [sortWorldK, putRowK]
  · intro k hk
    have hks : k < w.heap.size := by omega
    simp only [sortWorldK, grow, putRowK, putRow, mapBlock, Sort.ahead]
    rw [Array.getElem?_append_left (by simpa using hks), Array.getElem?_modify, if_neg (by omega)]

theorem flat_get (l : List (ByteArray × ByteArray)) (t : Nat) (h : t < l.length * 2) : (l.flatMap encKey)[t]? = some (encKey (l[t / 2]!))[t % 2]! := by
  induction l generalizing t with
  | nil => simp at h
  | cons x l ih =>
    rw [List.flatMap_cons]
    by_cases h2 : t < 2
    · rcases (show t = 0 ∨ t = 1 by omega) with rfl | rfl <;> simp [encKey]
    · obtain ⟨u, rfl⟩ : ∃ u, t = u + 2 := ⟨t - 2, by omega⟩
      have hl : (encKey x).length = 2 := rfl
      rw [List.getElem?_append_right (by omega), hl, show u + 2 - 2 = u by omega, ih u (by simp at h; omega), show (u + 2) / 2 = u / 2 + 1 by omega, show (u + 2) % 2 = u % 2 by omega]
      simp

theorem holds_of_heap {w : World} {g : Nat} {cur : Array Value} {e : TypeId} (d : Array (ByteArray × ByteArray)) (hheap : w.heap[g]? = some (.cells cur e (0, 0))) (htake : cur.toList.take (d.size * 2) = cellsK d) : HoldsK encKey 2 w g 0 d := by
  intro j hj
  rw [size_flatK] at hj
  have hg := flat_get d.toList j (by simpa using hj)
  have h1 : (cur.toList.take (d.size * 2))[j]? = some (encKey (d.toList[j / 2]!))[j % 2]! := by rw [htake]; exact hg
  rw [List.getElem?_take_of_lt hj] at h1
  rw [get_flatK _ _ _ _ hj]
  constructor
  · simp only [World.cell?, hheap, Nat.zero_add]
    have he : d.toList[j / 2]! = d[j / 2]! := by
      rw [getElem!_pos d (j / 2) (by omega), getElem!_pos d.toList (j / 2) (by simp; omega)]; simp
    rw [← Array.getElem?_toList, h1, he]
    rfl
  · simp [World.frozen?, hheap]

end Go.Proofs.Ytinmagodckkedaa.Z

/-
  Rows of keys in memory: their cells, and what a slice of keys holds.
-/
namespace Go.Proofs.Ytinmagodckkedaa.Z
open Go.RowKit

def cellsL (d : List (ByteArray × ByteArray)) : List Value := d.flatMap encKey

theorem cellsL_cons (x : ByteArray × ByteArray) (d : List (ByteArray × ByteArray)) : cellsL (x :: d) = .string x.1 :: .string x.2 :: cellsL d := rfl
theorem cellsL_append (d e : List (ByteArray × ByteArray)) : cellsL (d ++ e) = cellsL d ++ cellsL e := List.flatMap_append
theorem cellsL_length (d : List (ByteArray × ByteArray)) : (cellsL d).length = d.length * 2 := by
  induction d with
  | nil => rfl
  | cons x d ih => rw [cellsL_cons]; simp [ih]; omega
theorem cellsL_one (d : List (ByteArray × ByteArray)) : ∀ u ∈ cellsL d, u.oneCell' = true := by
  intro u hu
  obtain ⟨x, _, hx⟩ := List.mem_flatMap.1 hu
  simp [encKey] at hx
  rcases hx with rfl | rfl <;> rfl
theorem cellsL_get (d : List (ByteArray × ByteArray)) (i : Nat) (h : i < d.length) : (cellsL d)[i * 2]? = some (.string d[i].1) ∧ (cellsL d)[i * 2 + 1]? = some (.string d[i].2) := by
  induction d generalizing i with
  | nil => simp at h
  | cons x d ih =>
    rw [cellsL_cons]
    cases i with
    | zero => simp
    | succ i =>
      have := ih i (by simpa using h)
      rw [show (i + 1) * 2 = i * 2 + 1 + 1 by omega]
      simpa using this
theorem cellsL_set (d : List (ByteArray × ByteArray)) (i : Nat) (a b : ByteArray) (h : i < d.length) : ((cellsL d).set (i * 2) (.string a)).set (i * 2 + 1) (.string b) = cellsL (d.set i (a, b)) := by
  induction d generalizing i with
  | nil => simp at h
  | cons x d ih =>
    rw [cellsL_cons]
    cases i with
    | zero => simp [cellsL_cons]
    | succ i =>
      rw [show (i + 1) * 2 = i * 2 + 1 + 1 by omega]
      simp only [List.set_cons_succ, cellsL_cons]
      rw [ih i (by simpa using h)]
theorem cellsL_take (d : List (ByteArray × ByteArray)) (k : Nat) : (cellsL d).take (k * 2) = cellsL (d.take k) := by
  induction d generalizing k with
  | nil => simp [cellsL]
  | cons x d ih =>
    cases k with
    | zero => simp [cellsL]
    | succ k => rw [show (k + 1) * 2 = k * 2 + 1 + 1 by omega, cellsL_cons]; simp [ih, cellsL_cons]

/-- The keys d lie from off on in block b. -/
def KeysAt (w : World) (b off : Nat) (d : List (ByteArray × ByteArray)) : Prop :=
  ∀ i, (h : i < d.length) → w.cell? ⟨b, off + i * 2, none⟩ = some (.string d[i].1) ∧ w.cell? ⟨b, off + i * 2 + 1, none⟩ = some (.string d[i].2)

/-- v is a slice that holds the keys d. -/
def IsKeys (w : World) (v : Value) (d : List (ByteArray × ByteArray)) : Prop :=
  ∃ p cap, v = .slice p d.length cap ∧ (d = [] ∨ ∃ b off, p = some ⟨b, off, none⟩ ∧ KeysAt w b off d)

theorem KeysAt.kept {W w' : World} {b off : Nat} {d : List (ByteArray × ByteArray)} (h : KeysAt W b off d) (hq : Below W.heap.size W w') : KeysAt w' b off d := by
  intro i hi
  have hc := bcell hq
  obtain ⟨h1, h2⟩ := h i hi
  have lt : b < W.heap.size := by
    rcases Nat.lt_or_ge b W.heap.size with h' | h'
    · exact h'
    · simp [World.cell?, Array.getElem?_eq_none h'] at h1
  exact ⟨by rw [hc.1 _ _ lt]; exact h1, by rw [hc.1 _ _ lt]; exact h2⟩
theorem IsKeys.kept {W w' : World} {v : Value} {d : List (ByteArray × ByteArray)} (h : IsKeys W v d) (hq : Below W.heap.size W w') : IsKeys w' v d := by
  obtain ⟨p, cap, rfl, h | ⟨b, off, rfl, h⟩⟩ := h
  · exact ⟨p, cap, rfl, .inl h⟩
  · exact ⟨_, cap, rfl, .inr ⟨b, off, rfl, h.kept hq⟩⟩

/-- v is a slice of the call's own that holds the keys d. -/
def Own (w : World) (base : Nat) (v : Value) (d : List (ByteArray × ByteArray)) : Prop := w.ownsRow base 31 2 v d.length (cellsL d)

theorem Own.keysAt {w : World} {base g n cap : Nat} {d : List (ByteArray × ByteArray)} (h : Own w base (.slice (some ⟨g, 0, none⟩) n cap) d) : n = d.length ∧ KeysAt w g 0 d := by
  have hn : n = d.length := by
    rcases h.2 with ⟨h', _⟩ | ⟨_, _, _, h', _⟩
    · simp at h'
    · simp only [Value.slice.injEq] at h'; exact h'.2.1
  subst hn
  refine ⟨rfl, fun i hi => ?_⟩
  have e := cellsL_get d i hi
  rw [Nat.zero_add, World.ownsRow.cellAt h (i * 2) (by omega), World.ownsRow.cellAt h (i * 2 + 1) (by omega)]
  exact e
theorem Own.is {w : World} {base : Nat} {v : Value} {d : List (ByteArray × ByteArray)} (h : Own w base v d) : IsKeys w v d := by
  rcases h.2 with ⟨rfl, h0⟩ | ⟨g, cap, cur, rfl, _⟩
  · exact ⟨none, 0, by rw [h0], .inl (List.eq_nil_of_length_eq_zero h0)⟩
  · exact ⟨_, cap, rfl, .inr ⟨g, 0, rfl, h.keysAt.2⟩⟩

end Go.Proofs.Ytinmagodckkedaa.Z

/-
  The contract of SameKeys.
-/
namespace Go.Proofs.Ytinmagodckkedaa.Z
open Go.RowKit

theorem eqK_iff (x y : ByteArray × ByteArray) : eqK x.1 x.2 y.1 y.2 = decide (x = y) := by
  unfold eqK
  rw [Lib.toList_data, Lib.toList_data, Lib.toList_data, Lib.toList_data, Bool.eq_iff_iff, decide_eq_true_iff]
  obtain ⟨⟨⟨a⟩⟩, ⟨⟨b⟩⟩⟩ := x
  obtain ⟨⟨⟨c⟩⟩, ⟨⟨d⟩⟩⟩ := y
  simp

end Go.Proofs.Ytinmagodckkedaa.Z

/-
  slices.Compact at keys, whatever their number.
-/
namespace Go.Proofs.Ytinmagodckkedaa.Z
open Go.RowKit Go.Lib

theorem toArray_get! (d : List (ByteArray × ByteArray)) (i : Nat) (h : i < d.length) : d.toArray[i]! = d[i] := by
  rw [getElem!_pos d.toArray i (by simpa using h)]; simp

theorem zown_at {w : World} {base g n cap : Nat} {dk : Array (ByteArray × ByteArray)} (h : Own w base (.slice (some ⟨g, 0, none⟩) n cap) dk.toList) (i : Nat) (hi : i < dk.size) :
    w.cell? ⟨g, i * 2, none⟩ = some (.string dk[i]!.1) ∧ w.cell? ⟨g, i * 2 + 1, none⟩ = some (.string dk[i]!.2) ∧ w.frozen? ⟨g, i * 2, none⟩ = false ∧ w.frozen? ⟨g, i * 2 + 1, none⟩ = false := by
  obtain ⟨rfl, hk⟩ := h.keysAt
  have := hk i (by simpa using hi)
  rw [Nat.zero_add] at this
  have e : dk.toList[i]'(by simpa using hi) = dk[i]! := by rw [getElem!_pos dk i hi]; simp
  rw [e] at this
  exact ⟨this.1, this.2, World.ownsRow.frozenAt h _, World.ownsRow.frozenAt h _⟩

theorem zown_frozen {w : World} {base g n cap : Nat} {d : List (ByteArray × ByteArray)} (h : Own w base (.slice (some ⟨g, 0, none⟩) n cap) d) (j : Nat) : w.frozen? ⟨g, j, none⟩ = false := by
  obtain ⟨rfl, _⟩ := h.keysAt
  exact World.ownsRow.frozenAt h j
theorem zown_some {w : World} {base g n cap : Nat} {d : List (ByteArray × ByteArray)} (h : Own w base (.slice (some ⟨g, 0, none⟩) n cap) d) (j : Nat) (hj : j < d.length * 2) : (w.cell? ⟨g, j, none⟩).isSome = true := by
  obtain ⟨rfl, _⟩ := h.keysAt
  rw [World.ownsRow.cellAt h j hj, List.getElem?_eq_getElem (by rw [cellsL_length]; exact hj)]
  rfl

theorem zown_store {w : World} {base g n cap : Nat} {dk : Array (ByteArray × ByteArray)} (h : Own w base (.slice (some ⟨g, 0, none⟩) n cap) dk.toList) (i : Nat) (hi : i < dk.size) (a b : ByteArray) :
    Own ((w.setCell ⟨g, i * 2, none⟩ (.string a)).setCell ⟨g, i * 2 + 1, none⟩ (.string b)) base (.slice (some ⟨g, 0, none⟩) n cap) (dk.setIfInBounds i (a, b)).toList := by
  obtain ⟨rfl, _⟩ := h.keysAt
  have h1 := (World.ownsRow.stored h (i * 2) (.string a)).1
  have h2 := (World.ownsRow.stored h1 (i * 2 + 1) (.string b)).1
  rw [cellsL_set _ _ _ _ (by simpa using hi)] at h2
  unfold Own
  simpa using h2

theorem zown_cut {w : World} {base g n cap : Nat} {xs : List Value} (h : w.ownsRow base 31 2 (.slice (some ⟨g, 0, none⟩) n cap) n xs) (k : Nat) (hk : k ≤ n) :
    w.ownsRow base 31 2 (.slice (some ⟨g, 0, none⟩) k cap) k (xs.take (k * 2)) := by
  obtain ⟨hl, h' | ⟨g', cap', cur, h', hb, hg, hnc, hcm, hcs, ht⟩⟩ := h
  · simp at h'
  · simp only [Value.slice.injEq, Option.some.injEq, Addr.mk.injEq, and_true, true_and] at h'
    obtain ⟨rfl, rfl⟩ := h'
    refine ⟨by rw [List.length_take, hl]; omega, .inr ⟨g, cap, cur, rfl, hb, hg, by omega, hcm, hcs, ?_⟩⟩
    rw [← ht, List.take_take, Nat.min_eq_left (by omega)]

theorem zown_setCells {base g k cap : Nat} {xs : List Value} : ∀ (vs : List Value) (o : Nat) (w : World), k * 2 ≤ o → w.ownsRow base 31 2 (.slice (some ⟨g, 0, none⟩) k cap) k xs →
    (w.setCells g o vs).ownsRow base 31 2 (.slice (some ⟨g, 0, none⟩) k cap) k xs
  | [], _, _, _, h => h
  | v :: vs, o, w, ho, h => by
    unfold World.setCells
    refine zown_setCells vs (o + 1) _ (by omega) ?_
    have := (World.ownsRow.stored h o v).1
    rwa [List.set_eq_of_length_le (by rw [h.1]; omega)] at this

theorem comp_done {d : List (ByteArray × ByteArray)} {kk : Nat} {dk : Array (ByteArray × ByteArray)} (hI : CompInv d.toArray d.length kk dk) : compact d = dk.toList.take kk := by
  have hs : dk.size = d.length := by simpa using hI.size
  have hlt := hI.lt
  unfold compact
  apply List.ext_getElem?
  intro j
  by_cases hj : j < kk
  · rw [hI.low j hj, List.getElem?_take_of_lt hj, List.getElem?_eq_getElem (by simp; omega), getElem!_pos dk j (by omega)]
    simp
  · rw [List.getElem?_eq_none (by rw [hI.len]; omega), List.getElem?_eq_none (by rw [List.length_take]; omega)]

set_option maxHeartbeats 2000000 in
theorem zcompact_own (g cap base : Nat) (d : List (ByteArray × ByteArray)) (w : World) (hown : Own w base (.slice (some ⟨g, 0, none⟩) d.length cap) d) (hcap : d.length ≤ cap) (hm : cap ≤ maxLen) :
    Calls Try.prog 54 #[.slice (some ⟨g, 0, none⟩) d.length cap] w fun e w' =>
      e = .returned (.slice (some ⟨g, 0, none⟩) (compact d).length cap) ∧ Own w' base (.slice (some ⟨g, 0, none⟩) (compact d).length cap) (compact d) ∧ Below g w w' := by
  unfold maxLen at hm
  have HO := hid hown
  clear hown
  have hsame : (∀ j, j < d.length → keeps d.toArray j = true) → compact d = d := compact_all d
  have HS := hid hsame
  clear hsame
  have heq := fun a b c d w => eql_key a b c d w
  have hneq := fun a b c d w => neq_key a b c d w
  by_cases h2 : d.length < 2
  · have h2' : (d.length : Int) < 2 := by omega
    go_enter Try.func54, Try.ntmps54
    go_wp2
    go_ret
    have e := HS.out (fun j hj => keeps_lt_one _ j (by omega))
    rw [e]
    exact ⟨rfl, HO.out, Below.refl _ _⟩
  · have h2' : ¬ (d.length : Int) < 2 := by omega
    go_enter Try.func54, Try.ntmps54
    go_wp2
    go_loopg [3] d.length (fun gh s3 wr => ∃ k q : Nat, 1 ≤ k ∧ k ≤ d.length ∧ d.length - k ≤ gh ∧ s3 = .int .i64 k ∧ wr = w.drewN q ∧ ∀ j, j < k → keeps d.toArray j = true)
    case atStart => exact ⟨1, 0, Nat.le_refl _, by omega, by omega, rfl, rfl, keeps_lt_one _⟩
    case round =>
      obtain ⟨k, q, hk1, hk, hg, rfl, rfl, hall⟩ := hrel
      have HA := hid hall
      clear hall
      by_cases hlt : k < d.length
      · have hD : d = d.toArray.toList := by simp
        have ho' : Own w base (.slice (some ⟨g, 0, none⟩) d.length cap) d.toArray.toList := by rw [← hD]; exact HO.out
        obtain ⟨a1, a2, _, _⟩ := zown_at ho' k (by simpa using hlt)
        obtain ⟨p1, p2, _, _⟩ := zown_at ho' (k - 1) (by simp; omega)
        have HV : Hid (d.toArray[k]! = d.toArray[k]! ∧ d.toArray[k - 1]! = d.toArray[k - 1]!) := ⟨rfl, rfl⟩
        have HO' := hid ho'
        clear ho' hD
        have hx : ∃ x y, d.toArray[k]! = x ∧ d.toArray[k - 1]! = y := ⟨_, _, rfl, rfl⟩
        obtain ⟨⟨x1, x2⟩, ⟨y1, y2⟩, ex, ey⟩ := hx
        rw [ex] at a1 a2
        rw [ey] at p1 p2
        have HE := hid (And.intro ex ey)
        clear ex ey HV
        have i1 : (0 : Int) ≤ ↑k - 1 := by omega
        have i2 : (↑k : Int) < ↑d.length := by omega
        have i3 : (↑k - 1 : Int) < ↑d.length := by omega
        by_cases hdup : (x1, x2) = (y1, y2)
        · obtain ⟨rfl, rfl⟩ := Prod.mk.inj hdup
          have hk2 := eqK_self x1 x2
          go_wp2_with fail
          go_quiet (fail)
          go_wp2_with fail
          have hstart : CompInv d.toArray (k + 1) k d.toArray := CompInv.start HA.out (keeps_neg (by omega) (by rw [HE.out.1, HE.out.2]))
          have HST := hid hstart
          clear hstart a1 a2 p1 p2 i1 i2 i3 hk2
          go_loopg [3, 5] d.length (fun gh s3 s5 wr => ∃ (kk k2 : Nat) (dk : Array (ByteArray × ByteArray)), s3 = .int .i64 kk ∧ s5 = .int .i64 k2 ∧ 1 ≤ k2 ∧ k + k2 ≤ d.length ∧ d.length - (k + k2) ≤ gh ∧ Own wr base (.slice (some ⟨g, 0, none⟩) d.length cap) dk.toList ∧ Below g w wr ∧ CompInv d.toArray (k + k2) kk dk)
          case atStart => exact ⟨k, 1, d.toArray, rfl, rfl, Nat.le_refl _, by omega, by omega, HO'.out, below_drewN (Below.refl _ _) _, HST.out⟩
          case round =>
            obtain ⟨kk, k2, dk, rfl, rfl, h1, hle, hg2, ho2, hb2, hI⟩ := hrel
            have hkk := hI.lt
            have hds : dk.size = d.length := by simpa using hI.size
            have HI := hid hI
            have HO2 := hid ho2
            have HB2 := hid hb2
            by_cases hlt2 : k + k2 < d.length
            · obtain ⟨a1, a2, _, _⟩ := zown_at ho2 (k + k2) (by omega)
              obtain ⟨p1, p2, _, _⟩ := zown_at ho2 (k + k2 - 1) (by omega)
              obtain ⟨b1, b2, b3, b4⟩ := zown_at ho2 kk (by omega)
              rw [hI.high (k + k2) (by omega), show (k + k2) * 2 = k * 2 + k2 * 2 by omega] at a1 a2
              rw [hI.high (k + k2 - 1) (by omega), show (k + k2 - 1) * 2 = k * 2 + (k2 - 1) * 2 by omega] at p1 p2
              have hx : ∃ x y, d.toArray[k + k2]! = x ∧ d.toArray[k + k2 - 1]! = y := ⟨_, _, rfl, rfl⟩
              obtain ⟨⟨u1, u2⟩, ⟨v1, v2⟩, ex, ey⟩ := hx
              rw [ex] at a1 a2
              rw [ey] at p1 p2
              have HU := hid (And.intro ex ey)
              clear ex ey ho2 hb2 hI
              generalize dk[kk]!.1 = o1 at *
              generalize dk[kk]!.2 = o2 at *
              have i1 : (0 : Int) ≤ ↑k2 - 1 := by omega
              have i2 : (↑k2 : Int) < ↑(d.length - k) := by omega
              have i3 : (↑k2 - 1 : Int) < ↑(d.length - k) := by omega
              by_cases huv : (u1, u2) = (v1, v2)
              · obtain ⟨rfl, rfl⟩ := Prod.mk.inj huv
                have hk2 := eqK_self u1 u2
                go_wp2_with fail
                go_quiet (fail)
                go_wp2_with fail
                go_roundg (d.length - (k + (k2 + 1)))
                case measure => omega
                case rel => exact ⟨kk, k2 + 1, dk, rfl, by go_num, by omega, by omega, Nat.le_refl _, HO2.out, below_drewN HB2.out _, HI.out.skip (keeps_neg (by omega) (by rw [HU.out.1, HU.out.2]))⟩
              · have hk2 : eqK u1 u2 v1 v2 = false := by rw [eqK_iff (u1, u2) (v1, v2)]; simpa using huv
                have HN := hid huv
                clear huv
                go_wp2_with fail
                go_quiet (fail)
                go_wp2_with fail
                go_roundg (d.length - (k + (k2 + 1)))
                case measure => omega
                case rel =>
                  refine ⟨kk + 1, k2 + 1, dk.setIfInBounds kk (u1, u2), by go_num, by go_num, by omega, by omega, Nat.le_refl _, zown_store HO2.out kk (by omega) u1 u2, below_drewN ((HB2.out.setCell (Nat.le_refl _) _).setCell (Nat.le_refl _) _) _, ?_⟩
                  have := HI.out.keep (by simpa using hlt2) (keeps_pos (by rw [HU.out.1, HU.out.2]; exact HN.out))
                  rwa [HU.out.1] at this
            · have hend : k + k2 = d.length := by omega
              have hcl : ∀ ty, (Builtin.clear_ #[48] ty #[.slice (some ⟨g, kk * 2, none⟩) (d.length - kk) (cap - kk)]).run Try.prog wr = .ok (.tuple #[]) (wr.setCells g (kk * 2) (List.replicate ((d.length - kk) * 2) (.string ⟨#[]⟩))) := by
                intro ty
                refine run_clear_key wr ty g (kk * 2) (d.length - kk) (cap - kk) (by omega) ?_ ?_
                · intro j hj
                  exact zown_some ho2 _ (by rw [Array.length_toList]; omega)
                · intro j _
                  exact zown_frozen ho2 _
              generalize hz : List.replicate ((d.length - kk) * 2) (Value.string ⟨#[]⟩) = zs at hcl
              have hdone : compact d = dk.toList.take kk := by
                rw [hend] at hI
                exact comp_done hI
              have HD := hid hdone
              clear hz hdone hI ho2 hb2
              have hlen0 : ¬ k + k2 < d.length := hlt2
              go_wp2_with fail
              go_ret
              have hlk : (compact d).length = kk := by rw [HD.out, List.length_take, Array.length_toList]; omega
              rw [hlk]
              refine ⟨rfl, ?_, below_setCells g (Nat.le_refl _) _ _ HB2.out⟩
              have ho3 := HO2.out
              have hl3 : dk.toList.length = d.length := by rw [Array.length_toList]; exact hds
              unfold Own at ho3 ⊢
              rw [hl3] at ho3
              have h4 := zown_setCells zs (kk * 2) wr (Nat.le_refl _) (zown_cut ho3 kk (by omega))
              rw [cellsL_take, ← HD.out] at h4
              rw [hlk]
              exact h4
        · have hk2 : eqK x1 x2 y1 y2 = false := by rw [eqK_iff (x1, x2) (y1, y2)]; simpa using hdup
          have HN := hid hdup
          clear hdup
          go_wp2_with fail
          go_quiet (fail)
          go_wp2_with fail
          go_roundg (d.length - (k + 1))
          case measure => omega
          case rel =>
            refine ⟨k + 1, q + nq, by omega, by omega, Nat.le_refl _, by go_num, by simp, fun j hj => ?_⟩
            by_cases e : j = k
            · subst e
              exact keeps_pos (by rw [HE.out.1, HE.out.2]; exact HN.out)
            · exact HA.out j (by omega)
      · have hkd : k = d.length := by omega
        have e := HS.out (fun j hj => HA.out j (by omega))
        have HE := hid e
        clear e hkd
        go_wp2
        go_ret
        rw [HE.out]
        exact ⟨rfl, HO.out, below_drewN (Below.refl _ _) _⟩

end Go.Proofs.Ytinmagodckkedaa.Z

/-
  Lists of keys that rise: one for each set of keys.
-/
namespace Go.Proofs.Ytinmagodckkedaa.Z
open Go.Lib Go.Sort

/-- x stands ahead of y. -/
def ahead (x y : ByteArray × ByteArray) : Prop := cmpK x y < 0

theorem ahead_iff (x y : ByteArray × ByteArray) : ltOf cmpK x y = true ↔ ahead x y := by
  unfold ltOf ahead; rw [decide_eq_true_iff]
theorem ahead_irrefl (x : ByteArray × ByteArray) : ¬ ahead x x := by
  unfold ahead cmpK; rw [cmpI_eq, (cmpL_zero _ _ _ _).2 ⟨rfl, rfl⟩]; omega
theorem ahead_trans {x y z : ByteArray × ByteArray} (h1 : ahead x y) (h2 : ahead y z) : ahead x z := cmpL_lt_trans _ _ _ _ _ _ h1 h2
theorem ahead_total (x y : ByteArray × ByteArray) : ahead x y ∨ x = y ∨ ahead y x := by
  have hn : cmpK y x = - cmpK x y := cmpL_neg _ _ _ _
  have hr : cmpK x y = -1 ∨ cmpK x y = 0 ∨ cmpK x y = 1 := cmpL_range _ _ _ _
  rcases hr with h | h | h
  · left; unfold ahead; omega
  · right; left
    obtain ⟨h1, h2⟩ := (cmpL_zero _ _ _ _).1 h
    obtain ⟨⟨⟨a⟩⟩, ⟨⟨b⟩⟩⟩ := x
    obtain ⟨⟨⟨c⟩⟩, ⟨⟨d⟩⟩⟩ := y
    simp at h1 h2
    rw [h1, h2]
  · right; right; unfold ahead; omega

def Rises (r : List (ByteArray × ByteArray)) : Prop := r.Pairwise ahead

theorem rises_uniq {r s : List (ByteArray × ByteArray)} (hr : Rises r) (hs : Rises s) (h : ∀ x, x ∈ r ↔ x ∈ s) : r = s := by
  induction r generalizing s with
  | nil =>
    cases s with
    | nil => rfl
    | cons y s => exact absurd ((h y).2 (List.mem_cons_self ..)) (by simp)
  | cons x r ih =>
    cases s with
    | nil => exact absurd ((h x).1 (List.mem_cons_self ..)) (by simp)
    | cons y s =>
      obtain ⟨hx, hr'⟩ := List.pairwise_cons.1 hr
      obtain ⟨hy, hs'⟩ := List.pairwise_cons.1 hs
      have hxy : x = y := by
        rcases List.mem_cons.1 ((h x).1 (List.mem_cons_self ..)) with e | e
        · exact e
        · rcases List.mem_cons.1 ((h y).2 (List.mem_cons_self ..)) with e' | e'
          · exact e'.symm
          · exact absurd (ahead_trans (hx y e') (hy x e)) (ahead_irrefl x)
      subst hxy
      rw [ih hr' hs' fun z => ?_]
      constructor
      · intro hz
        rcases List.mem_cons.1 ((h z).1 (List.mem_cons_of_mem _ hz)) with e | e
        · exact absurd (hx z hz) (by rw [e]; exact ahead_irrefl _)
        · exact e
      · intro hz
        rcases List.mem_cons.1 ((h z).2 (List.mem_cons_of_mem _ hz)) with e | e
        · exact absurd (hy z hz) (by rw [e]; exact ahead_irrefl _)
        · exact e

theorem compact_rises (d : Array (ByteArray × ByteArray)) (n : Nat) (hs : SortedIn (ltOf cmpK) 0 n d) : ∀ m, m ≤ n →
    Rises (compactUpTo d m) ∧ (∀ x, x ∈ compactUpTo d m → ∃ j, j < m ∧ x = d[j]!) ∧ (∀ j, j < m → d[j]! ∈ compactUpTo d m) := by
  intro m
  induction m with
  | zero => intro _; exact ⟨List.Pairwise.nil, fun x hx => by simp [compactUpTo] at hx, fun j hj => by omega⟩
  | succ m ih =>
    intro hm
    obtain ⟨h1, h2, h3⟩ := ih (by omega)
    rw [compactUpTo_succ]
    have notlt : ∀ i, i < m → ahead d[i]! d[m]! ∨ d[i]! = d[m]! := by
      intro i hi
      have := hs i m (Nat.zero_le _) hi (by omega)
      rcases ahead_total d[i]! d[m]! with h | h | h
      · exact .inl h
      · exact .inr h
      · rw [(ahead_iff _ _).2 h] at this; cases this
    by_cases hk : keeps d m = true
    · rw [if_pos hk]
      refine ⟨?_, ?_, ?_⟩
      · refine List.pairwise_append.2 ⟨h1, List.pairwise_singleton _ _, fun x hx y hy => ?_⟩
        rw [List.mem_singleton] at hy
        subst hy
        obtain ⟨j, hj, rfl⟩ := h2 x hx
        have hne : d[m]! ≠ d[m - 1]! := by
          have : m = 0 ∨ d[m]! ≠ d[m - 1]! := by simpa [keeps] using hk
          rcases this with h | h
          · omega
          · exact h
        have hlast : ahead d[m - 1]! d[m]! := by
          rcases notlt (m - 1) (by omega) with h | h
          · exact h
          · exact absurd h.symm hne
        by_cases hjm : j = m - 1
        · rw [hjm]; exact hlast
        · have := hs j (m - 1) (Nat.zero_le _) (by omega) (by omega)
          rcases ahead_total d[j]! d[m - 1]! with h | h | h
          · exact ahead_trans h hlast
          · rw [h]; exact hlast
          · rw [(ahead_iff _ _).2 h] at this; cases this
      · intro x hx
        rcases List.mem_append.1 hx with h | h
        · obtain ⟨j, hj, e⟩ := h2 x h
          exact ⟨j, by omega, e⟩
        · exact ⟨m, by omega, List.mem_singleton.1 h⟩
      · intro j hj
        by_cases hjm : j = m
        · subst hjm; exact List.mem_append_right _ (List.mem_singleton.2 rfl)
        · exact List.mem_append_left _ (h3 j (by omega))
    · have hk' : keeps d m = false := by simpa using hk
      rw [if_neg hk, List.append_nil]
      refine ⟨h1, fun x hx => ?_, fun j hj => ?_⟩
      · obtain ⟨j, hj, e⟩ := h2 x hx
        exact ⟨j, by omega, e⟩
      · by_cases hjm : j = m
        · subst hjm
          have : j ≠ 0 ∧ d[j]! = d[j - 1]! := by simpa [keeps] using hk'
          rw [this.2]
          exact h3 (j - 1) (by have := this.1; omega)
        · exact h3 j (by omega)

/-- What sorting and compacting makes of a list: it rises, and holds the same keys. -/
theorem sorted_compact (l : List (ByteArray × ByteArray)) (d : Array (ByteArray × ByteArray)) (hp : PermIn 0 l.length l.toArray d) (hs : SortedIn (ltOf cmpK) 0 l.length d) :
    Rises (compact d.toList) ∧ (∀ x, x ∈ compact d.toList ↔ x ∈ l) ∧ d.size = l.length := by
  obtain ⟨h1, _, h3⟩ := hp
  have hsz : d.size = l.length := by simpa using h1
  have hperm : d.toList.Perm l := by
    have e1 : (d.extract 0 l.length).toList = d.toList := by rw [← hsz]; simp
    have e2 : (l.toArray.extract 0 l.length).toList = l := by simp
    rw [e1, e2] at h3
    exact h3
  have hd : d.toList.toArray = d := by simp
  obtain ⟨r1, r2, r3⟩ := compact_rises d l.length hs l.length (Nat.le_refl _)
  have e : compact d.toList = compactUpTo d l.length := by
    unfold compact
    rw [hd, Array.length_toList, hsz]
  rw [e]
  refine ⟨r1, fun x => ?_, hsz⟩
  rw [← hperm.mem_iff]
  constructor
  · intro hx
    obtain ⟨j, hj, rfl⟩ := r2 x hx
    rw [getElem!_pos d j (by omega)]
    exact Array.getElem_mem_toList ..
  · intro hx
    obtain ⟨j, hj, rfl⟩ := List.mem_iff_getElem.1 hx
    have hj' : j < d.size := by simpa using hj
    have := r3 j (by omega)
    rw [getElem!_pos d j hj'] at this
    simpa using this

end Go.Proofs.Ytinmagodckkedaa.Z

/-
  The contract of Sort of package name, whatever the number of keys.
-/
namespace Go.Proofs.Ytinmagodckkedaa.Z
open Go.RowKit Go.Sort Go.Lib

theorem size_putCells (enc : Value → Value) (off : Nat) (d c : Array Value) : (putCells enc off d c).size = c.size := by
  unfold putCells; simp

theorem zown_sorted {w1 : World} {base g cap n : Nat} {cur : Array Value} {os : Array Obj} (d d' : Array (ByteArray × ByteArray)) (hb : base ≤ g) (hg : g < w1.heap.size) (hheap : w1.heap[g]? = some (.cells cur 31 (0, 0)))
    (hcap : d.size ≤ cap) (hm : cap ≤ maxLen) (hsz : cur.size = cap * 2) (hH : HoldsK encKey 2 w1 g 0 d) (hd : d'.size = d.size) :
    Own (sortWorldK encKey 2 w1 g 0 n d' os) base (.slice (some ⟨g, 0, none⟩) d'.size cap) d'.toList := by
  have hH2 : HoldsK encKey 2 (sortWorldK encKey 2 w1 g 0 n d' os) g 0 d' :=
    holdsK_grow encKey 2 _ os g 0 _ (by simpa [putRowK] using hg) (holdsK_putRowK encKey 2 (Sort.ahead w1 n) g 0 _ _ (holdsK_ahead encKey 2 w1 n g 0 _ hH) hd)
  have hh : (sortWorldK encKey 2 w1 g 0 n d' os).heap[g]? = some (.cells (putCells id 0 (flatK encKey 2 d') cur) 31 (0, 0)) := by
    simp only [sortWorldK, grow, putRowK, putRow, mapBlock, Sort.ahead]
    rw [Array.getElem?_append_left (by simpa using hg), Array.getElem?_modify, if_pos rfl, hheap]
    rfl
  refine ⟨cellsL_length _, .inr ⟨g, cap, _, by simp, hb, hh, by simp; omega, hm, by rw [size_putCells, hsz], ?_⟩⟩
  apply List.ext_getElem?
  intro j
  by_cases hj : j < d'.size * 2
  · rw [List.getElem?_take_of_lt (by simpa using hj)]
    have h1 := (hH2 j (by simpa using hj)).1
    simp only [World.cell?, hh, Nat.zero_add] at h1
    rw [get_flatK _ _ _ _ hj] at h1
    have h2 := flat_get d'.toList j (by simpa using hj)
    have he : d'.toList[j / 2]! = d'[j / 2]! := by
      rw [getElem!_pos d' (j / 2) (by omega), getElem!_pos d'.toList (j / 2) (by simp; omega)]; simp
    rw [he] at h2
    have h3 : (putCells id 0 (flatK encKey 2 d') cur)[j]? = some (encKey d'[j / 2]!)[j % 2]! := h1
    rw [Array.getElem?_toList, h3]
    exact h2.symm
  · rw [List.getElem?_eq_none (by rw [List.length_take]; simp; omega), List.getElem?_eq_none (by rw [cellsL_length]; simp; omega)]

set_option maxHeartbeats 800000 in
theorem zsort_any (b off c : Nat) (d : List (ByteArray × ByteArray)) (w : World) (hk : KeysAt w b off d) (hbytes : d.length * 32 ≤ 140737488355328) :
    Calls Try.prog 38 #[.slice (some ⟨b, off, none⟩) d.length c] w fun e w' =>
      ∃ v r, e = .returned v ∧ Rises r ∧ (∀ x, x ∈ r ↔ x ∈ d) ∧ r.length ≤ d.length ∧ Own w' w.heap.size v r ∧ v ≠ .slice none 0 0 ∧ Below w.heap.size w w' := by
  have hnews : ∀ j u, (cellsL d)[j]? = some u → w.cell? ⟨b, off + j, none⟩ = some u := by
    intro j u hu
    have hj : j < d.length * 2 := by
      rw [← cellsL_length]
      rcases Nat.lt_or_ge j (cellsL d).length with h | h
      · exact h
      · rw [List.getElem?_eq_none h] at hu; cases hu
    obtain ⟨h1, h2⟩ := hk (j / 2) (by omega)
    obtain ⟨e1, e2⟩ := cellsL_get d (j / 2) (by omega)
    rcases Nat.mod_two_eq_zero_or_one j with hm | hm
    · have ej : j / 2 * 2 = j := by omega
      rw [ej] at h1 e1
      rw [e1] at hu
      rw [h1, ← hu]
    · have ej : j / 2 * 2 + 1 = j := by omega
      rw [Nat.add_assoc, ej] at h2
      rw [ej] at e2
      rw [e2] at hu
      rw [h2, ← hu]
  have hcl := zclone_any b off d.length c (cellsL d) w (cellsL_length d) (by unfold maxLen; omega) hbytes hnews (cellsL_one d)
  have H := hid hcl
  clear hnews hk hcl
  go_enter Try.func38, Try.ntmps38
  go_wp2_with fail
  refine H.out.mono ?_
  rintro e w1 ⟨v', rfl, ⟨hl, hor⟩, hne, hq1⟩
  rcases hor with ⟨h1, h2⟩ | ⟨g1, cap, cur, rfl, hbase, hheap, hcap, hcapm, hsz, htake⟩
  · exact absurd h1 hne
  have hg1 : g1 < w1.heap.size := by
    rcases Nat.lt_or_ge g1 w1.heap.size with h | h
    · exact h
    · rw [Array.getElem?_eq_none h] at hheap; cases hheap
  have hH : HoldsK encKey 2 w1 g1 0 d.toArray := holds_of_heap d.toArray hheap (by simpa [cellsK, cellsL] using htake)
  have hcon := zsortfunc_any g1 0 cap d.toArray w1 hH hg1 (by simp; omega)
  rw [show d.toArray.size = d.length by simp] at hcon
  have HC := hid hcon
  have HH := hid (And.intro hH (And.intro hheap hsz))
  clear hcon hH hl hne hheap htake hsz
  go_wp2_with fail
  refine HC.out.mono ?_
  rintro e w2 ⟨rfl, d', n, os, hperm, hsorted, hw2⟩
  obtain ⟨hr, hmem, hds⟩ := sorted_compact d d' hperm hsorted
  have ho2 : Own w2 w.heap.size (.slice (some ⟨g1, 0, none⟩) d'.size cap) d'.toList := by
    rw [hw2]
    exact zown_sorted d.toArray d' hbase hg1 HH.out.2.1 (by simpa using hcap) hcapm HH.out.2.2 HH.out.1 (by simpa using hds)
  have hq2 : Below w.heap.size w w2 := by
    rw [hw2]; exact below_sortWorld hq1 hq1.size g1 0 n _ os hbase
  have hcomp := zcompact_own g1 cap w.heap.size d'.toList w2 (by rw [Array.length_toList]; exact ho2) (by rw [Array.length_toList]; omega) hcapm
  rw [Array.length_toList, hds] at hcomp
  have HCC := hid hcomp
  have HR := hid (And.intro hr hmem)
  have hlen : (compact d'.toList).length ≤ d.length := by
    have h5 : (compact d'.toList).length ≤ d'.size := by
      unfold compact compactUpTo
      rw [List.length_map]
      exact Nat.le_trans (List.length_filter_le _ _) (by simp)
    exact Nat.le_trans h5 (Nat.le_of_eq hds)
  have HLEN := hid hlen
  clear hw2 hperm hsorted hcomp hr hmem ho2 hlen hds
  go_wp2_with fail
  refine HCC.out.mono ?_
  rintro e w3 ⟨rfl, ho3, hq3⟩
  go_wp2_with fail
  go_ret
  exact ⟨_, _, rfl, HR.out.1, HR.out.2, HLEN.out, ho3, by simp, hq2.trans (hq3.mono hbase)⟩

end Go.Proofs.Ytinmagodckkedaa.Z

/-
  The contracts of Temps and Keys of package refs.
-/
namespace Go.Proofs.Ytinmagodckkedaa
open Go.RowKit

def txtsX (d : List Fx) : List ByteArray := d.flatMap (·.txt)
theorem txtsX_flds (d : List Fx) : textsF (d.map Fx.fld) = txtsX d := by
  unfold textsF txtsX
  rw [List.flatMap_map]
  rfl
theorem txtsX_succ (d : List Fx) (i : Nat) (h : i < d.length) : txtsX (d.take (i + 1)) = txtsX (d.take i) ++ (d[i]).txt := by
  unfold txtsX
  rw [List.take_succ_eq_append_getElem h, List.flatMap_append]
  simp
theorem txtsX_part (d : List Fx) (i : Nat) : (txtsX (d.take i)).length ≤ (txtsX d).length := by
  have : txtsX d = txtsX (d.take i) ++ txtsX (d.drop i) := by
    unfold txtsX
    rw [← List.flatMap_append, List.take_append_drop]
  rw [this, List.length_append]
  omega
theorem txtsX_mem {d : List Fx} {t : ByteArray} : t ∈ txtsX d ↔ ∃ x ∈ d, t ∈ x.txt := by simp [txtsX]

theorem temps_sort (fs : List Fld) : sortT ((textsF fs).filterMap tempT) = tempsF fs := by
  refine rising_uniqR totB (sortT_rising _) (told_rising totB _ _) fun z => ?_
  rw [sortT_mem, List.mem_filterMap]
  exact (told_mem totB tempT (textsF fs) z).symm

set_option maxHeartbeats 4000000 in
set_option maxRecDepth 100000 in
theorem temps_any (v : Value) (d : List Fx) (w : World) (hv : IsXs w v d) (hf : FitX d) (hT : (txtsX d).length ≤ 2000000) :
    Calls Try.prog 15 #[v] w fun e w' => ∃ u, e = .returned u ∧ OwnT w.heap.size w' u (tempsF (d.map Fx.fld)) ∧ Below w.heap.size w w' := by
  obtain ⟨i0, hi0, hz0, hz1, hz2⟩ := info_parts Try.infoStr
  have HI := hid hi0
  obtain ⟨p, cap, rfl, hd, ht⟩ := hv
  have HD := hid hd
  have HX := hid ht
  have HF := hid hf.2
  have hl := hf.1
  unfold maxLen at hl
  have HTOT := hid hT
  have HEND := hid (temps_sort (d.map Fx.fld))
  rw [txtsX_flds] at HEND
  clear hd ht hf hi0 hT
  go_enter Try.func15, Try.ntmps15
  go_wp2_with fail
  go_loopg [3, 12] d.length (fun g vs vi wr => ∃ i : Nat, vi = .int .i64 i ∧ i ≤ d.length ∧ d.length - i ≤ g ∧ Hid (Below w.heap.size w wr) ∧ Hid (OwnT w.heap.size wr vs ((txtsX (d.take i)).filterMap tempT)))
  case atStart => exact ⟨0, rfl, by omega, by omega, Below.refl _ _, World.ownsRow_nil _ _ _ _⟩
  case round =>
    obtain ⟨i, rfl, hi, hgk, HB, HO⟩ := hrel
    by_cases hlt : i < d.length
    · have hltz : (i : Int) < (d.length : Int) := by omega
      have hiz : (0 : Int) ≤ i := by omega
      obtain ⟨b, off, rfl, hxs⟩ : ∃ b off, p = some ⟨b, off, none⟩ ∧ XsAt w b off d := by
        rcases HD.out with h | h
        · subst h; simp at hlt
        · exact h
      obtain ⟨c0, c1⟩ := hxs.kept HB.out i hlt
      have hxi : (d[i]).at w := HX.out _ (List.getElem_mem hlt)
      have hfi := HF.out _ (List.getElem_mem hlt)
      have hsu := txtsX_succ d i hlt
      have hpa := txtsX_part d (i + 1)
      have htot := HTOT.out
      obtain ⟨x, hx⟩ : ∃ x, d[i] = x := ⟨_, rfl⟩
      rw [hx] at c0 c1 hxi hfi hsu
      rw [hsu, List.length_append] at hpa
      obtain ⟨nm, p5, c5, ts⟩ := x
      simp only [Fx.at, Fx.sl, Fx.fld] at c0 c1 hxi hfi hsu hpa
      obtain ⟨acc, hacc⟩ : ∃ acc, (txtsX (d.take i)) = acc := ⟨_, rfl⟩
      rw [hacc] at HO hsu hpa
      have hts : acc.length + ts.length ≤ 2000000 := by omega
      have HSU := hid hsu
      have HXI := hid hxi
      have HFI := hid hfi
      have hsz := HB.out.size
      clear hxs hxi hfi hx hsu hpa htot hacc
      have HB1 := hid (HB.out.alloc hsz (.cells #[.string nm, .slice p5 ts.length c5] 38))
      have HO1 := hid (OwnT.on HO.out ((Below.refl _ wr).alloc (Nat.le_refl _) (.cells #[.string nm, .slice p5 ts.length c5] 38)))
      clear HO
      go_wp2_with fail
      go_loopg [3, 19] ts.length (fun g vs vj wr2 => ∃ j : Nat, vj = .int .i64 j ∧ j ≤ ts.length ∧ ts.length - j ≤ g ∧ Hid (Below w.heap.size w wr2) ∧ Hid (OwnT w.heap.size wr2 vs ((acc ++ ts.take j).filterMap tempT)))
      case atStart => exact ⟨0, rfl, by omega, by omega, HB1.out, by show OwnT _ _ _ _; simpa using HO1.out⟩
      case round =>
        obtain ⟨j, rfl, hj, hgj, HBJ, HOJ⟩ := hrel
        by_cases hlj : j < ts.length
        · have hljz : (j : Int) < (ts.length : Int) := by omega
          have hjz : (0 : Int) ≤ j := by omega
          obtain ⟨b2, o2, rfl, ht2⟩ : ∃ b o, p5 = some ⟨b, o, none⟩ ∧ ∀ i, (h : i < ts.length) → w.cell? ⟨b, o + i, none⟩ = some (.string ts[i]) := by
            rcases HXI.out with h | h
            · rw [h] at hlj; simp at hlj
            · exact h
          have t0 : wr.cell? ⟨b2, o2 + j, none⟩ = some (.string ts[j]) := (HBJ.out.cell (p := ⟨b2, o2 + j, none⟩) (cell_block (ht2 j hlj))).trans (ht2 j hlj)
          have htz := HFI.out.2.2 _ (List.getElem_mem hlj)
          have hst : acc ++ ts.take (j + 1) = (acc ++ ts.take j) ++ [ts[j]] := by rw [List.take_succ_eq_append_getElem hlj, List.append_assoc]
          obtain ⟨t, hte⟩ : ∃ t, ts[j] = t := ⟨_, rfl⟩
          rw [hte] at t0 htz hst
          have hal : ((acc ++ ts.take j).filterMap tempT).length ≤ 2000000 := by
            refine Nat.le_trans (List.length_filterMap_le _ _) ?_
            rw [List.length_append, List.length_take]; omega
          obtain ⟨r, bb, hT, hcall⟩ := tempOf_is t htz
          have HC := hid hcall
          have hfm : (acc ++ ts.take (j + 1)).filterMap tempT = (acc ++ ts.take j).filterMap tempT ++ (if bb then [r] else []) := by
            rw [hst, List.filterMap_append]
            congr 1
            rcases hT with ⟨h, rfl⟩ | ⟨h, rfl⟩
            · simp [h]
            · simp [h]
          obtain ⟨L, hL⟩ : ∃ L, (acc ++ ts.take j).filterMap tempT = L := ⟨_, rfl⟩
          rw [hL] at HOJ hal hfm
          have HFM := hid hfm
          have hszj := HBJ.out.size
          clear ht2 htz hst hT hcall hfm hte hL
          cases bb with
          | true =>
            go_wp2_with (first
              | (go_at_call 23; refine (HC.out _).mono ?_; rintro e w2 ⟨rfl, n2, rfl⟩)
              | (at_builtin; refine wpList_append_own _ rfl _ _ 35 rfl w.heap.size 9 i0 (.string ⟨#[]⟩) 1 16 Try.underlying35 HI.out hz0 hz1 hz2 rfl (by decide) _ _ _ rfl (World.ownsRow.alloc HOJ.out _) _ 1 1 [.string r] rfl rfl (fun j u hj => KT.news (wr.drewN n2) r j u hj) (by intro u hu; simp at hu; subst hu; rfl) (by unfold maxLen; omega) (by omega) (by simp; omega) ?_; intro v4 w4 hown4 hg4 hnil4; have HO4 := hid hown4; have HG4 := hid hg4; clear hown4 hg4 hnil4))
            go_roundg (ts.length - (j + 1))
            case measure => omega
            refine ⟨j + 1, by go_num, by omega, by omega, ?_, ?_⟩
            · exact ((bel_drewN HBJ.out n2).alloc hszj _).grown HG4.out (by simp; omega) (fun k hk => (World.ownsRow.lt HOJ.out k hk).1)
            · rw [HFM.out]
              show OwnT _ _ _ _
              unfold OwnT
              rw [List.length_append, List.map_append]
              exact HO4.out
          | false =>
            go_wp2_with (first
              | (go_at_call 23; refine (HC.out _).mono ?_; rintro e w2 ⟨rfl, n2, rfl⟩))
            go_roundg (ts.length - (j + 1))
            case measure => omega
            refine ⟨j + 1, by go_num, by omega, by omega, bel_drewN HBJ.out n2, ?_⟩
            rw [HFM.out, show L ++ (if false = true then [r] else []) = L by simp]
            exact HOJ.out
        · have hljz : ¬ (j : Int) < (ts.length : Int) := by omega
          have hjt : acc ++ ts.take j = txtsX (d.take (i + 1)) := by rw [HSU.out, List.take_of_length_le (by omega)]
          rw [hjt] at HOJ
          clear hjt
          go_wp2_with fail
          go_roundg (d.length - (i + 1))
          case measure => omega
          exact ⟨i + 1, by go_num, by omega, by omega, HBJ.out, HOJ.out⟩
    · have hltz : ¬ (i : Int) < (d.length : Int) := by omega
      have hti : d.take i = d := List.take_of_length_le (by omega)
      rw [hti] at HO
      obtain ⟨L, hL⟩ : ∃ L, (txtsX d).filterMap tempT = L := ⟨_, rfl⟩
      have hLl : L.length ≤ 2000000 := by rw [← hL]; exact Nat.le_trans (List.length_filterMap_le _ _) HTOT.out
      rw [hL] at HO HEND
      have hsz := HB.out.size
      clear hti hL
      go_wp2_with (first
        | (go_at_call 34; refine (sortS_own w.heap.size _ L _ HO.out hsz (by omega)).mono ?_; rintro e w2 ⟨rfl, ho2, hb2⟩; have HO2 := hid ho2; have HB2 := hid hb2; clear ho2 hb2)
        | (go_at_call 35; refine (compS_own w.heap.size _ (orderT L) _ HO2.out (Nat.le_trans hsz HB2.out.size) (by rw [orderT_len]; omega)).mono ?_; rintro e w3 ⟨u3, rfl, ho3, hb3⟩; have HO3 := hid ho3; have HB3 := hid hb3; clear ho3 hb3))
      go_ret
      refine ⟨_, rfl, ?_, (HB.out.trans HB2.out).trans HB3.out⟩
      rw [← HEND.out, ← order_once]
      exact HO3.out

end Go.Proofs.Ytinmagodckkedaa

/-
  The contract of changed of package refs: a value of its own, in which each text is what a function makes of it.
-/
namespace Go.Proofs.Ytinmagodckkedaa
open Go.RowKit

theorem made_flds (n : Nat) : madeCells (Value.agg #[.string ⟨#[]⟩, .slice none 0 0]).cells (n * 2) = (cellsX (List.replicate n zeroX)).toArray := by
  apply Array.ext
  · rw [size_madeCells]; simp [cellsX_len]
  · intro i h1 h2
    have hi : i < n * 2 := by rw [size_madeCells] at h1; exact h1
    have hg := cellsX_get (List.replicate n zeroX) (i / 2) (by simp; omega)
    simp only [List.getElem_replicate] at hg
    have e : (cellsX (List.replicate n zeroX))[i]? = some ((cellsX (List.replicate n zeroX)).toArray[i]) := by
      rw [List.getElem?_eq_getElem (by simpa using h2)]; simp
    rcases Nat.mod_two_eq_zero_or_one i with hm | hm
    · have e1 : i / 2 * 2 = i := by omega
      rw [e1] at hg
      rw [hg.1] at e
      have : (madeCells (Value.agg #[.string ⟨#[]⟩, .slice none 0 0]).cells (n * 2))[i] = .string ⟨#[]⟩ := by
        simp [madeCells, Value.cells, hm]
      rw [this]
      exact Option.some.inj e
    · have e1 : i / 2 * 2 + 1 = i := by omega
      rw [e1] at hg
      rw [hg.2] at e
      have : (madeCells (Value.agg #[.string ⟨#[]⟩, .slice none 0 0]).cells (n * 2))[i] = .slice none 0 0 := by
        simp [madeCells, Value.cells, hm]
      rw [this]
      exact Option.some.inj e

theorem made_txts (n : Nat) : madeCells (Value.string ⟨#[]⟩).cells (n * 1) = (List.replicate n (Value.string ⟨#[]⟩)).toArray := by
  apply Array.ext
  · rw [size_madeCells]; simp
  · intro i h1 h2
    simp [madeCells, Value.cells, Nat.mod_one]

/-- The texts that have been made, ahead of the first round. -/
theorem own_zeros {N : Nat} {w : World} (hN : N ≤ w.heap.size) (n : Nat) (hn : n ≤ maxLen) (S : Nat) (hS : S = w.heap.size) : OwnT N (w.alloc (.cells (List.replicate n (Value.string ⟨#[]⟩)).toArray 9)) (.slice (some ⟨S, 0, none⟩) n n) (List.replicate n ⟨#[]⟩) := by
  subst hS
  refine ⟨by simp, Or.inr ⟨w.heap.size, n, _, by simp, hN, heap_alloc_new w _, by simp, hn, by simp, ?_⟩⟩
  simp

theorem xst_made (w : World) (n : Nat) (hn : n ≤ maxLen) : XSt w.heap.size w.heap.size w.heap.size w (.slice (some ⟨w.heap.size, 0, none⟩) n n) (List.replicate n zeroX) (w.alloc (.cells (cellsX (List.replicate n zeroX)).toArray 38)) := by
  have hl := cellsX_len (List.replicate n zeroX)
  rw [List.length_replicate] at hl
  refine ⟨⟨⟨?_, fun x hx => ?_⟩, apart_zeros n⟩, fun k hk => ?_, fun x hx k hk => ?_, ?_⟩
  · refine ⟨by rw [cellsX_len], Or.inr ⟨w.heap.size, n, _, by simp, Nat.le_refl _, heap_alloc_new w _, by simp, hn, by simp [hl], ?_⟩⟩
    rw [List.length_replicate, List.take_of_length_le (by simp [hl])]
  · rw [List.eq_of_mem_replicate hx]
    exact World.ownsRow_nil _ _ _ _
  · simp [Value.ownBlock] at hk; omega
  · rw [List.eq_of_mem_replicate hx] at hk; cases hk
  · have hb : Below w.heap.size w (w.alloc (.cells (cellsX (List.replicate n zeroX)).toArray 38)) := (Below.refl _ _).alloc (Nat.le_refl _) _
    exact ⟨hb.os, hb.tape, hb.output, hb.size, fun k hk _ => hb.block k hk⟩

/-- What a field's texts are, when j of them have been made. -/
def partT (g : ByteArray → ByteArray) (ts : List ByteArray) (j : Nat) : List ByteArray := (ts.take j).map g ++ List.replicate (ts.length - j) ⟨#[]⟩
theorem partT_len (g : ByteArray → ByteArray) (ts : List ByteArray) (j : Nat) (h : j ≤ ts.length) : (partT g ts j).length = ts.length := by
  unfold partT; simp; omega
theorem partT_zero (g : ByteArray → ByteArray) (ts : List ByteArray) : partT g ts 0 = List.replicate ts.length ⟨#[]⟩ := by simp [partT]
theorem partT_all (g : ByteArray → ByteArray) (ts : List ByteArray) : partT g ts ts.length = ts.map g := by simp [partT]
theorem partT_step (g : ByteArray → ByteArray) (ts : List ByteArray) (j : Nat) (h : j < ts.length) : (partT g ts j).set j (g ts[j]) = partT g ts (j + 1) := by
  unfold partT
  apply List.ext_getElem?
  intro k
  have hl : ((ts.take j).map g).length = j := by simp; omega
  have hl2 : ((ts.take (j + 1)).map g).length = j + 1 := by simp; omega
  rw [List.getElem?_set]
  by_cases hk : j = k
  · subst hk
    rw [if_pos rfl, if_pos (by simp; omega), List.getElem?_append_left (by omega)]
    simp [h]
  · rw [if_neg hk]
    by_cases hlt : k < j
    · rw [List.getElem?_append_left (by omega), List.getElem?_append_left (by omega)]
      simp [hlt, show k < j + 1 by omega]
    · rw [List.getElem?_append_right (by omega), List.getElem?_append_right (by omega), hl, hl2]
      simp only [List.getElem?_replicate]
      by_cases hb : k < ts.length
      · rw [if_pos (by omega), if_pos (by omega)]
      · rw [if_neg (by omega), if_neg (by omega)]

def ChIn (w : World) (d : List Fx) (g : ByteArray → ByteArray) (i : Nat) (o : List Fx) (W : World) : Prop :=
  o.length = d.length ∧ XSt w.heap.size w.heap.size w.heap.size w (.slice (some ⟨w.heap.size, 0, none⟩) d.length d.length) o W ∧ ∀ k, (h : k < o.length) → (h' : k < d.length) → k < i → (o[k]).fld = ((d[k]).name, (d[k]).txt.map g)

theorem ChIn.on {w : World} {d : List Fx} {g : ByteArray → ByteArray} {i : Nat} {o : List Fx} {W W' : World} (h : ChIn w d g i o W) (hb : Below W.heap.size W W') : ChIn w d g i o W' := ⟨h.1, h.2.1.on hb, h.2.2⟩
theorem ChIn.below {w : World} {d : List Fx} {g : ByteArray → ByteArray} {i : Nat} {o : List Fx} {W : World} (h : ChIn w d g i o W) : Below w.heap.size w W := h.2.1.below rfl

theorem ChIn.done {w : World} {d : List Fx} {g : ByteArray → ByteArray} {o : List Fx} {W : World} (h : ChIn w d g d.length o W) : o.map Fx.fld = mapT g (d.map Fx.fld) := by
  obtain ⟨h1, _, h3⟩ := h
  apply List.ext_getElem
  · simp [mapT, h1]
  · intro k hk hk'
    have hk1 : k < o.length := by simpa using hk
    have := h3 k hk1 (by omega) (by omega)
    rw [List.getElem_map, this]
    simp [mapT, Fx.fld]

/-- A row's cells at i. -/
theorem ChIn.cells {w : World} {d : List Fx} {g : ByteArray → ByteArray} {i : Nat} {o : List Fx} {W : World} (h : ChIn w d g i o W) {k : Nat} (hk : k < o.length) :
    W.cell? ⟨w.heap.size, k * 2, none⟩ = some (.string (o[k]).name) ∧ W.cell? ⟨w.heap.size, k * 2 + 1, none⟩ = some (o[k]).sl ∧ (∀ j, W.frozen? ⟨w.heap.size, j, none⟩ = false) := by
  obtain ⟨h1, h2, _⟩ := h
  obtain ⟨c0, c1⟩ := cellsX_get o k hk
  have hrow := h2.own.1.1
  rw [h1] at hrow
  refine ⟨?_, ?_, fun j => World.ownsRow.frozenAt hrow j⟩
  · rw [World.ownsRow.cellAt hrow (k * 2) (by omega)]; exact c0
  · rw [World.ownsRow.cellAt hrow (k * 2 + 1) (by omega)]; exact c1

theorem ChIn.drew {w : World} {d : List Fx} {g : ByteArray → ByteArray} {i : Nat} {o : List Fx} {W : World} (h : ChIn w d g i o W) (n : Nat) : ChIn w d g i o (W.drewN n) := h.on (bel_drewN (Below.refl _ _) n)

/-- A field's place is taken by its name and texts that are still to be made. -/
theorem ChIn.fresh {w : World} {d : List Fx} {g : ByteArray → ByteArray} {i : Nat} {o : List Fx} {W : World} (h : ChIn w d g i o W) (hi : i < o.length) (nm : ByteArray) (n S : Nat) (hS : S = W.heap.size) (hn : n ≤ maxLen) :
    ChIn w d g i (o.set i ⟨nm, some ⟨S, 0, none⟩, n, List.replicate n ⟨#[]⟩⟩) (((W.alloc (.cells (List.replicate n (Value.string ⟨#[]⟩)).toArray 9)).setCell ⟨w.heap.size, i * 2, none⟩ (.string nm)).setCell ⟨w.heap.size, i * 2 + 1, none⟩ (.slice (some ⟨S, 0, none⟩) n n)).drew := by
  obtain ⟨h1, h2, h3⟩ := h
  have hsz := (h2.below rfl).size
  have hb : Below W.heap.size W (W.alloc (.cells (List.replicate n (Value.string ⟨#[]⟩)).toArray 9)) := (Below.refl _ _).alloc (Nat.le_refl _) _
  have hx := own_zeros (N := w.heap.size) (w := W) hsz n hn S hS
  have hsl : (⟨nm, some ⟨S, 0, none⟩, n, List.replicate n ⟨#[]⟩⟩ : Fx).sl = .slice (some ⟨S, 0, none⟩) n n := by simp [Fx.sl]
  have hp := (h2.on hb).put h1 hi ⟨nm, some ⟨S, 0, none⟩, n, List.replicate n ⟨#[]⟩⟩ (by rw [hsl]; exact hx) (by rw [hsl]; intro k hk; simp [Value.ownBlock] at hk; omega) (fun j hj hne => by
    right
    rw [hsl]
    intro e
    have := (World.ownsRow.lt (show W.ownsRow w.heap.size 9 1 (o[j]).sl (o[j]).txt.length ((o[j]).txt.map Value.string) from h2.own.1.2 _ (List.getElem_mem hj)) S (by rw [e]; rfl)).2
    omega)
  rw [hsl] at hp
  refine ⟨by rw [List.length_set]; exact h1, hp.on (bel_drewN (Below.refl _ _) 1), fun k hk hk' hki => ?_⟩
  rw [List.getElem_set, if_neg (by omega)]
  exact h3 k (by simpa using hk) hk' hki

theorem ChIn.text {w : World} {d : List Fx} {g : ByteArray → ByteArray} {i : Nat} {o : List Fx} {W : World} (h : ChIn w d g i o W) {nm : ByteArray} {T n j : Nat} {ts : List ByteArray} (hn : o[i]? = some ⟨nm, some ⟨T, 0, none⟩, n, partT g ts j⟩) (hj : j < ts.length) :
    ChIn w d g i (o.set i ⟨nm, some ⟨T, 0, none⟩, n, partT g ts (j + 1)⟩) (W.setCell ⟨T, j, none⟩ (.string (g ts[j]))) := by
  obtain ⟨h1, h2, h3⟩ := h
  obtain ⟨hi, he⟩ := List.getElem?_eq_some_iff.1 hn
  have := h2.wipe hi (j := j) (gt := T) (by rw [he]) (g ts[j])
  rw [he] at this
  simp only [partT_step g ts j hj] at this
  refine ⟨by rw [List.length_set]; exact h1, this, fun k hk hk' hki => ?_⟩
  rw [List.getElem_set, if_neg (by omega)]
  exact h3 k (by simpa using hk) hk' hki

theorem ChIn.next {w : World} {d : List Fx} {g : ByteArray → ByteArray} {i : Nat} {o : List Fx} {W : World} (h : ChIn w d g i o W) {nm : ByteArray} {p : Option Addr} {n : Nat} {ts : List ByteArray} (hn : o[i]? = some ⟨nm, p, n, partT g ts ts.length⟩) (hi : i < d.length) {q : Option Addr} {c : Nat} (hd : d[i] = ⟨nm, q, c, ts⟩) : ChIn w d g (i + 1) o W := by
  obtain ⟨h1, h2, h3⟩ := h
  refine ⟨h1, h2, fun k hk hk' hki => ?_⟩
  by_cases e : k = i
  · subst e
    obtain ⟨hi', he⟩ := List.getElem?_eq_some_iff.1 hn
    rw [he, hd]
    simp [Fx.fld, partT_all]
  · exact h3 k hk hk' (by omega)

/-- The texts' own cells at i. -/
theorem ChIn.texts {w : World} {d : List Fx} {g : ByteArray → ByteArray} {i : Nat} {o : List Fx} {W : World} (h : ChIn w d g i o W) {nm : ByteArray} {T n : Nat} {us : List ByteArray} (hn : o[i]? = some ⟨nm, some ⟨T, 0, none⟩, n, us⟩) {j : Nat} (hj : j < us.length) :
    W.cell? ⟨T, j, none⟩ = some (.string us[j]) ∧ W.frozen? ⟨T, j, none⟩ = false ∧ W.cell? ⟨w.heap.size, i * 2 + 1, none⟩ = some (.slice (some ⟨T, 0, none⟩) us.length n) := by
  obtain ⟨hi, he⟩ := List.getElem?_eq_some_iff.1 hn
  have hc := (h.cells hi).2.1
  rw [he] at hc
  have ho := h.2.1.own.1.2 _ (List.getElem_mem hi)
  rw [he] at ho
  have hrow : W.ownsRow w.heap.size 9 1 (.slice (some ⟨T, 0, none⟩) us.length n) us.length (us.map Value.string) := ho
  refine ⟨?_, World.ownsRow.frozenAt hrow j, hc⟩
  rw [World.ownsRow.cellAt hrow j (by omega)]
  simp [hj]

end Go.Proofs.Ytinmagodckkedaa

/-
  The walk of changed of package refs.
-/
namespace Go.Proofs.Ytinmagodckkedaa
open Go.RowKit

set_option maxHeartbeats 8000000 in
set_option maxRecDepth 100000 in
theorem changed_any (F : Nat) (lb : Array Value) (g : ByteArray → ByteArray) (v : Value) (d : List Fx) (w : World) (hv : IsXs w v d) (hf : FitX d) (hn40 : d.length * 40 ≤ 281474976710656) (hn16 : ∀ x ∈ d, x.txt.length * 16 ≤ 281474976710656)
    (eg : ∀ args w, (callFunc F args).run Try.prog w = .ok (.enter F args) w)
    (hg : ∀ t ∈ txtsX d, ∀ W, Below w.heap.size w W → Calls Try.prog F (#[.string t] ++ lb) W fun e w' => e = .returned (.string (g t)) ∧ Below W.heap.size W w') :
    Calls Try.prog 21 #[v, .func (.func F) #[] lb] w fun e w' => ∃ u o, e = .returned u ∧ OwnJ w.heap.size w' u o ∧ o.map Fx.fld = mapT g (d.map Fx.fld) ∧ Below w.heap.size w w' := by
  obtain ⟨j0, hj0, hy0, hy1, hy2⟩ := info_parts Try.infoFld
  obtain ⟨i0, hi0, hz0, hz1, hz2⟩ := info_parts Try.infoStr
  obtain ⟨p, cap, rfl, hd, ht⟩ := hv
  have HD := hid hd
  have HX := hid ht
  have HF := hid hf.2
  have hlm := hf.1
  have hl := hf.1
  unfold maxLen at hl
  have HN16 := hid hn16
  have HG := hid hg
  have hmk0 : (Instr.makeSlice 22 (.int .i64 (d.length : Int)) (.int .i64 (d.length : Int))).run Try.prog w = .ok (.slice (some ⟨w.heap.size, 0, none⟩) d.length d.length) (w.alloc (.cells (cellsX (List.replicate d.length zeroX)).toArray 38)) := by
    have := run_make (P := Try.prog) w 22 38 j0 (.agg #[.string ⟨#[]⟩, .slice none 0 0]) Try.underlying22 hj0 hy0 .i64 .i64 (d.length : Int) (d.length : Int) (by omega) (by omega) (by rw [hy2]; omega) (by omega)
    rw [this, hy1, Int.toNat_natCast, made_flds]
  have HMK : Hid (∀ (n : Nat), n * 16 ≤ 281474976710656 → ∀ W : World, (Instr.makeSlice 35 (.int .i64 (n : Int)) (.int .i64 (n : Int))).run Try.prog W = .ok (.slice (some ⟨W.heap.size, 0, none⟩) n n) (W.alloc (.cells (List.replicate n (Value.string ⟨#[]⟩)).toArray 9))) := fun n hn W => by
    have := run_make (P := Try.prog) W 35 9 i0 (.string ⟨#[]⟩) Try.underlying35 hi0 hz0 .i64 .i64 (n : Int) (n : Int) (by omega) (by omega) (by rw [hz2]; omega) (by omega)
    rw [this, hz1, Int.toNat_natCast, made_txts]
  have IN0 : Hid (ChIn w d g 0 (List.replicate d.length zeroX) (w.alloc (.cells (cellsX (List.replicate d.length zeroX)).toArray 38))) := ⟨by simp, xst_made w d.length hlm, fun k _ _ h => by omega⟩
  obtain ⟨L00, hL00⟩ : ∃ L00, (cellsX (List.replicate d.length zeroX)).toArray = L00 := ⟨_, rfl⟩
  rw [hL00] at hmk0 IN0
  clear hd ht hf hn16 hg hj0 hi0 hL00 hlm
  go_enter Try.func21, Try.ntmps21
  go_wp2_with fail
  clear hmk0
  go_loopg [15] d.length (fun gg vi wr => ∃ (i : Nat) (o : List Fx), vi = .int .i64 i ∧ i ≤ d.length ∧ d.length - i ≤ gg ∧ Hid (ChIn w d g i o wr))
  case atStart => exact ⟨0, _, rfl, by omega, by omega, IN0.out⟩
  case round =>
    clear IN0
    obtain ⟨i, o, rfl, hi, hgk, HC⟩ := hrel
    by_cases hlt : i < d.length
    · have hltz : (i : Int) < (d.length : Int) := by omega
      have hiz : (0 : Int) ≤ i := by omega
      obtain ⟨b, off, rfl, hxs⟩ : ∃ b off, p = some ⟨b, off, none⟩ ∧ XsAt w b off d := by
        rcases HD.out with h | h
        · subst h; simp at hlt
        · exact h
      obtain ⟨c0, c1⟩ := hxs.kept HC.out.below i hlt
      have hxi : (d[i]).at w := HX.out _ (List.getElem_mem hlt)
      have hx16 := HN16.out _ (List.getElem_mem hlt)
      have hmem := List.getElem_mem hlt
      obtain ⟨x, hx⟩ : ∃ x, d[i] = x := ⟨_, rfl⟩
      rw [hx] at c0 c1 hxi hx16 hmem
      have HGX := hid hx
      obtain ⟨nm, p5, c5, ts⟩ := x
      simp only [Fx.at, Fx.sl] at c0 c1 hxi hx16
      have hmk := HMK.out ts.length hx16
      obtain ⟨L0, hL0⟩ : ∃ L0, (List.replicate ts.length (Value.string ⟨#[]⟩)).toArray = L0 := ⟨_, rfl⟩
      rw [hL0] at hmk
      have HL0 := hid hL0
      have HXI := hid hxi
      have HME := hid hmem
      have HGT : Hid (∀ j, (h : j < ts.length) → ∀ W, Below w.heap.size w W → Calls Try.prog F (#[.string ts[j]] ++ lb) W fun e w' => e = .returned (.string (g ts[j])) ∧ Below W.heap.size W w') := fun j h W hW => HG.out _ (txtsX_mem.2 ⟨_, hmem, List.getElem_mem h⟩) W hW
      have hol := HC.out.1
      have hio : i < o.length := by omega
      clear hxs hxi hx hmem hL0
      obtain ⟨W1, hW1⟩ : ∃ W1, wr.alloc (.cells #[.string nm, .slice p5 ts.length c5] 38) = W1 := ⟨_, rfl⟩
      obtain ⟨S, hS⟩ : ∃ S, wr.heap.size = S := ⟨_, rfl⟩
      have hb1 : Below wr.heap.size wr W1 := by rw [← hW1]; exact (Below.refl _ _).alloc (Nat.le_refl _) _
      have hs1 : W1.heap.size = S + 1 := by rw [← hW1, ← hS]; simp
      have HC1 := hid (HC.out.on hb1)
      have hbox : ∀ W, Below W1.heap.size W1 W → W.cell? ⟨S, 0, none⟩ = some (.string nm) ∧ W.cell? ⟨S, 1, none⟩ = some (.slice p5 ts.length c5) := fun W hW => by
        have h0 : W1.heap[S]? = some (.cells #[.string nm, .slice p5 ts.length c5] 38 (0, 0)) := by rw [← hW1, ← hS]; exact heap_alloc_new wr _
        have h1 := (hW.block S (by omega)).trans h0
        rw [Lib.cell_of_heap h1, Lib.cell_of_heap h1]
        exact ⟨rfl, rfl⟩
      obtain ⟨q0, q1, q2⟩ := HC1.out.cells hio
      obtain ⟨on, hon⟩ : ∃ on, (o[i]).name = on := ⟨_, rfl⟩
      obtain ⟨os, hos⟩ : ∃ os, (o[i]).sl = os := ⟨_, rfl⟩
      rw [hon] at q0
      rw [hos] at q1
      obtain ⟨b0, b1⟩ := hbox W1 (Below.refl _ _)
      have HBOX := hid hbox
      have r0 : ∀ ob, (W1.alloc ob).cell? ⟨w.heap.size, i * 2, none⟩ = some (.string on) := fun ob => kept_new ob q0
      have r1 : ∀ ob, (W1.alloc ob).cell? ⟨w.heap.size, i * 2 + 1, none⟩ = some os := fun ob => kept_new ob q1
      have hNlt : w.heap.size < W1.heap.size := cell_lt q0
      have r2 : ∀ ob j, (W1.alloc ob).frozen? ⟨w.heap.size, j, none⟩ = false := fun ob j => by
        rw [← q2 j]; exact ((Below.refl _ W1).alloc (Nat.le_refl _) ob).frozen (p := ⟨w.heap.size, j, none⟩) hNlt
      have HS := hid hS
      clear hon hos hbox hb1
      go_upto_region 5 with fail
      try rw [hS]
      try rw [hW1]
      clear hW1 hS
      go_region
      have HJ0 := hid (HC1.out.fresh hio nm ts.length (S + 1) hs1.symm (by unfold maxLen; omega))
      rw [HL0.out] at HJ0
      obtain ⟨W2, hW2⟩ : ∃ W2, (((W1.alloc (.cells L0 9)).setCell ⟨w.heap.size, i * 2, none⟩ (.string nm)).setCell ⟨w.heap.size, i * 2 + 1, none⟩ (.slice (some ⟨S + 1, 0, none⟩) ts.length ts.length)).drew = W2 := ⟨_, rfl⟩
      rw [hW2] at HJ0 ⊢
      have hNS : w.heap.size < S := by
        have := HC.out.2.1.own.1.1
        have h2 := (World.ownsRow.lt this w.heap.size (by rfl)).2
        rw [HS.out] at h2
        exact h2
      have hbx2 : W2.cell? ⟨S, 0, none⟩ = some (.string nm) ∧ W2.cell? ⟨S, 1, none⟩ = some (.slice p5 ts.length c5) := by
        have h0 := HBOX.out (W1.alloc (.cells L0 9)) ((Below.refl _ _).alloc (Nat.le_refl _) _)
        have hg2 : (W1.alloc (.cells L0 9)).grownBy W2 (some w.heap.size) := by
          rw [← hW2]
          have h2 := grown_set ((W1.alloc (.cells L0 9)).setCell ⟨w.heap.size, i * 2, none⟩ (.string nm)) w.heap.size (i * 2 + 1) (.slice (some ⟨S + 1, 0, none⟩) ts.length ts.length)
          exact grown_trans (grown_set _ w.heap.size (i * 2) (.string nm)) ⟨h2.os, h2.tape, h2.output, h2.size, h2.block⟩
        refine ⟨?_, ?_⟩
        · rw [hg2.cell_far ⟨S, 0, none⟩ (by simp; omega) (by simp; omega)]; exact h0.1
        · rw [hg2.cell_far ⟨S, 1, none⟩ (by simp; omega) (by simp; omega)]; exact h0.2
      obtain ⟨e0, e1⟩ := hbx2
      have HO0 : Hid ((o.set i ⟨nm, some ⟨S + 1, 0, none⟩, ts.length, List.replicate ts.length ⟨#[]⟩⟩)[i]? = some ⟨nm, some ⟨S + 1, 0, none⟩, ts.length, partT g ts 0⟩) := by
        show _ = _
        rw [List.getElem?_set_self hio, partT_zero]
      clear hW2 q0 q1 q2 r0 r1 r2 b0 b1 c0 c1 hmk HC HC1
      go_wp2_with fail
      go_loopg [33] ts.length (fun gg vj wr2 => ∃ (j : Nat) (o2 : List Fx), vj = .int .i64 j ∧ j ≤ ts.length ∧ ts.length - j ≤ gg ∧ Hid (ChIn w d g i o2 wr2) ∧ Hid (o2[i]? = some ⟨nm, some ⟨S + 1, 0, none⟩, ts.length, partT g ts j⟩))
      case atStart => exact ⟨0, _, rfl, by omega, by omega, HJ0.out, HO0.out⟩
      case round =>
        clear HJ0 HO0 e0 e1
        obtain ⟨j, o2, rfl, hj, hgj, HCJ, HOJ⟩ := hrel
        by_cases hlj : j < ts.length
        · have hljz : (j : Int) < (ts.length : Int) := by omega
          have hjz : (0 : Int) ≤ j := by omega
          obtain ⟨b2, of2, rfl, ht2⟩ : ∃ b o, p5 = some ⟨b, o, none⟩ ∧ ∀ i, (h : i < ts.length) → w.cell? ⟨b, o + i, none⟩ = some (.string ts[i]) := by
            rcases HXI.out with h | h
            · rw [h] at hlj; simp at hlj
            · exact h
          have hbel := HCJ.out.below
          have t0 : wr.cell? ⟨b2, of2 + j, none⟩ = some (.string ts[j]) := (hbel.cell (p := ⟨b2, of2 + j, none⟩) (cell_block (ht2 j hlj))).trans (ht2 j hlj)
          have hpl := partT_len g ts j hj
          obtain ⟨k0, k1, k2⟩ := HCJ.out.texts HOJ.out (j := j) (by omega)
          rw [hpl] at k2
          have KS : Hid (∀ W, Below wr.heap.size wr W → W.cell? ⟨w.heap.size, i * 2 + 1, none⟩ = some (.slice (some ⟨S + 1, 0, none⟩) ts.length ts.length) ∧ (∃ u, W.cell? ⟨S + 1, j, none⟩ = some u) ∧ W.frozen? ⟨S + 1, j, none⟩ = false) := fun W hW => by
            obtain ⟨a0, a1, a2⟩ := (HCJ.out.on hW).texts HOJ.out (j := j) (by omega)
            rw [hpl] at a2
            exact ⟨a2, ⟨_, a0⟩, a1⟩
          have HCALL := hid (fun W hW => HGT.out j hlj W hW)
          have HSTEP := hid (fun W hW => (HCJ.out.on (W' := W) hW).text HOJ.out hlj)
          have HSET : Hid (i < o2.length) := (List.getElem?_eq_some_iff.1 HOJ.out).1
          obtain ⟨t, hte⟩ : ∃ t, ts[j] = t := ⟨_, rfl⟩
          obtain ⟨r, hr⟩ : ∃ r, g t = r := ⟨_, rfl⟩
          rw [hte] at t0 HCALL HSTEP
          rw [hr] at HCALL HSTEP
          have HBEL := hid hbel
          have hd0 := KS.out wr.drew (bel_drewN (Below.refl _ _) 1)
          clear ht2 hte hr hpl hbel k0 k1 k2
          go_upto_region 9 with fail
          go_region_held3 (fun w' => w'.cell? ⟨w.heap.size, i * 2 + 1, none⟩ = some (.slice (some ⟨S + 1, 0, none⟩) ts.length ts.length))
            (first | exact hd0.1 | exact hd2.1 | exact hd3 _)
            (first | (go_at_fn F; refine (HCALL.out _ (bel_drewN HBEL.out 1)).mono ?_; rintro e w2 ⟨rfl, hb2⟩; have hb2' := bel_then (bel_drewN (Below.refl wr.heap.size wr) 1) (Nat.le_refl _) hb2; have hd2 := KS.out w2 hb2'; obtain ⟨hd21, ⟨u2, hd22⟩, hd23⟩ := id hd2; have hd3 := (fun u => ((grown_set w2 (S + 1) j u).cell_far ⟨w.heap.size, i * 2 + 1, none⟩ (cell_lt hd21) (by simp; omega)).trans hd21)))
          go_wp2_with fail
          go_roundg (ts.length - (j + 1))
          case measure => omega
          refine ⟨j + 1, _, by go_num, by omega, by omega, HSTEP.out w2 hb2', ?_⟩
          show _ = _
          rw [List.getElem?_set_self HSET.out]
        · have hljz : ¬ (j : Int) < (ts.length : Int) := by omega
          have hje : j = ts.length := by omega
          subst hje
          have HN := hid (HCJ.out.next HOJ.out hlt HGX.out)
          clear HCJ
          go_wp2_with fail
          go_roundg (d.length - (i + 1))
          case measure => omega
          exact ⟨i + 1, o2, by go_num, by omega, by omega, HN.out⟩
    · have hltz : ¬ (i : Int) < (d.length : Int) := by omega
      have hie : i = d.length := by omega
      subst hie
      go_wp2_with fail
      go_ret
      exact ⟨_, rfl, o, HC.out.2.1.own, HC.out.done, HC.out.below⟩

end Go.Proofs.Ytinmagodckkedaa

/-
  The contract of Points of package refs.
-/
namespace Go.Proofs.Ytinmagodckkedaa
open Go.RowKit

def pointsB (fs : List Fld) (k : Ky) : Bool := fs.any fun f => f.2.any fun t => decide (namedT t = some k)
theorem pointsB_iff {fs : List Fld} {k : Ky} : pointsB fs k = true ↔ pointsF fs k := by
  unfold pointsB pointsF
  simp only [List.any_eq_true, decide_eq_true_eq]

theorem named_iff {k : Ky} (hk : keyOK k = true) (t : ByteArray) : namedT t = some k ↔ t = refT k := by
  constructor
  · intro h; exact (namedT_some h).1
  · rintro rfl; exact namedT_ref hk

theorem points_no {fs : List Fld} {k : Ky} (hk : keyOK k = false) : pointsB fs k = false := by
  cases h : pointsB fs k with
  | false => rfl
  | true =>
    obtain ⟨f, _, t, _, e⟩ := pointsB_iff.1 h
    rw [(namedT_some e).2] at hk
    cases hk

theorem contains_any (ts : List ByteArray) (r : ByteArray) : Lib.containsS ts r = ts.any fun t => decide (t = r) := by
  rw [Bool.eq_iff_iff, Lib.containsS_iff, List.any_eq_true]
  constructor
  · intro h; exact ⟨r, h, by simp⟩
  · rintro ⟨t, ht, e⟩; rw [← of_decide_eq_true e]; exact ht

theorem attach_list {α : Type} {P : α → Prop} : ∀ d : List α, (∀ x ∈ d, P x) → ∃ zs : List { x : α // P x }, zs.map (·.1) = d
  | [], _ => ⟨[], rfl⟩
  | x :: d, h => by
    obtain ⟨zs, hz⟩ := attach_list d fun y hy => h y (List.mem_cons_of_mem _ hy)
    exact ⟨⟨x, h x (by simp)⟩ :: zs, by simp [hz]⟩

theorem containsT_any (p : Option Addr) (c : Nat) (ts : List ByteArray) (r : ByteArray) (w : World) (h : TxtAt w p ts) (hl : ts.length ≤ maxLen) :
    Calls Try.prog 33 #[.slice p ts.length c, .string r] w fun e w' => e = .returned (.bool (ts.any fun t => decide (t = r))) ∧ w' = w := by
  rcases h with rfl | ⟨b, off, rfl, hc⟩
  · exact Try.slices_Contains_string_empty p c r w
  · unfold maxLen at hl
    refine (Try.slices_Contains_string b off ts.length c ts r w (Nat.le_refl _) (by omega) (fun j hj => ?_)).mono ?_
    · rw [hc j hj, List.getD_eq_getElem?_getD, List.getElem?_eq_getElem hj]
      rfl
    · rintro e w' ⟨rfl, rfl⟩
      exact ⟨ret_bool (by rw [List.take_length, contains_any]), rfl⟩

set_option maxHeartbeats 1000000 in
theorem points1_any (B : Nat) (r : ByteArray) (x : Fx) (W : World) (hB : W.cell? ⟨B, 0, none⟩ = some (.string r)) (hx : x.at W) (hl : x.txt.length ≤ maxLen) :
    Calls Try.prog 32 (#[.agg (encX x).toArray] ++ #[.pointer (some ⟨B, 0, none⟩)]) W fun e w' => e = .returned (.bool (x.txt.any fun t => decide (t = r))) ∧ Below W.heap.size W w' := by
  obtain ⟨nm, p, c, ts⟩ := x
  simp only [encX, Fx.sl]
  have hb := (Below.refl W.heap.size W).alloc (Nat.le_refl _) (.cells #[.string nm, .slice p ts.length c] 38)
  have HC := hid (containsT_any p c ts r _ (TxtAt.kept hx hb) hl)
  have hB2 : (W.alloc (.cells #[.string nm, .slice p ts.length c] 38)).cell? ⟨B, 0, none⟩ = some (.string r) := kept_new _ hB
  obtain ⟨q, hq⟩ : ∃ q, (ts.any fun t => decide (t = r)) = q := ⟨_, rfl⟩
  rw [hq] at HC ⊢
  clear hx hB hq
  show Calls Try.prog 32 #[.agg #[.string nm, .slice p ts.length c], .pointer (some ⟨B, 0, none⟩)] W _
  go_enter Try.func32, Try.ntmps32
  go_wp2_with (first | (go_at_call 33; refine HC.out.mono ?_; rintro e w1 ⟨rfl, rfl⟩))
  go_ret
  exact ⟨rfl, hb⟩

def AtX (w : World) : Type := { x : Fx // x.at w ∧ x.txt.length ≤ maxLen }
instance (w : World) : Inhabited (AtX w) := ⟨⟨zeroX, Or.inl rfl, Nat.zero_le _⟩⟩
def encA {w : World} (x : AtX w) : List Value := encX x.1

theorem enters_points1 : ∀ args w, (callFunc 32 args).run Try.prog w = .ok (.enter 32 args) w := enters_of Try.func32 (by kernel_rfl) rfl

set_option maxHeartbeats 1000000 in
theorem hasPt_none (p : Option Addr) (cap : Nat) (fv : Value) (w : World) : Calls Try.prog 31 #[.slice p 0 cap, fv] w fun e w' => e = .returned (.bool false) ∧ w' = w := by
  have hi : ∀ W, Calls Try.prog 46 #[.slice p 0 cap, fv] W fun e w' => e = .returned (.int .i64 (-1)) ∧ w' = W := fun W => by
    go_enter Try.func46, Try.ntmps46
    go_wp2_with fail
    refine wp_loop_rounds 1 ?_
    rw [rounds_succ]
    go_wp2_with fail
    go_ret
    exact ⟨rfl, rfl⟩
  have HI := hid hi
  clear hi
  go_enter Try.func31, Try.ntmps31
  go_wp2_with (first | (go_at_call 46; refine (HI.out _).mono ?_; rintro e w1 ⟨rfl, rfl⟩))
  go_ret
  exact ⟨rfl, rfl⟩

theorem hasPt_any (B : Nat) (r : ByteArray) (p : Option Addr) (cap : Nat) (d : List Fx) (w : World) (hB : w.cell? ⟨B, 0, none⟩ = some (.string r)) (hd : d = [] ∨ ∃ b off, p = some ⟨b, off, none⟩ ∧ XsAt w b off d) (ht : ∀ x ∈ d, x.at w) (hf : FitX d) :
    Calls Try.prog 31 #[.slice p d.length cap, .func (.func 32) #[] #[.pointer (some ⟨B, 0, none⟩)]] w fun e w' => e = .returned (.bool (d.any fun x => x.txt.any fun t => decide (t = r))) ∧ Below w.heap.size w w' := by
  rcases hd with rfl | ⟨b, off, rfl, hxs⟩
  · exact (hasPt_none _ _ _ w).mono fun e w' ⟨h1, h2⟩ => ⟨h1, by rw [h2]; exact Below.refl _ _⟩
  · have hlt : d ≠ [] → b < w.heap.size := fun hne => cell_block (hxs 0 (List.length_pos_iff.2 hne)).1
    by_cases hne : d = []
    · subst hne
      exact (hasPt_none _ _ _ w).mono fun e w' ⟨h1, h2⟩ => ⟨h1, by rw [h2]; exact Below.refl _ _⟩
    · have hall : ∀ x ∈ d, x.at w ∧ x.txt.length ≤ maxLen := fun x hx => ⟨ht x hx, (hf.2 x hx).2.1⟩
      obtain ⟨zs, hzs⟩ : ∃ zs : List (AtX w), zs.map (·.1) = d := attach_list d hall
      have hlen : zs.length = d.length := by rw [← hzs, List.length_map]
      have hl := hf.1
      unfold maxLen at hl
      have hc := AnyQ.slices_ContainsFunc (α := AtX w) Try.hasFld 2 Try.isAgg38 Try.sizeOf38 encA (fun _ => rfl) (fun x => x.1.txt.any fun t => decide (t = r)) 32 #[.pointer (some ⟨B, 0, none⟩)] enters_points1 b off d.length cap zs w
        (fun W x hW => (points1_any B r x.1 W ((hW.cell (p := ⟨B, 0, none⟩) (cell_block hB)).trans hB) (TxtAt.kept x.2.1 hW) x.2.2).mono fun e w' ⟨h1, h2⟩ => ⟨h1, bel_then hW hW.size h2⟩)
        (by omega) (by omega) (hlt hne)
        (fun j hj i v hv => by
          have hj' : j < d.length := by omega
          have e : (zs[j]!).1 = d[j] := by
            rw [getElem!_pos zs j hj]
            have : (zs.map (·.1))[j]'(by simpa using hj) = d[j] := by simp [hzs]
            simpa using this
          have hv' : (encX d[j])[i]? = some v := by rw [← e]; exact hv
          obtain ⟨c0, c1⟩ := hxs j hj'
          match i, hv' with
          | 0, hv' => simp [encX] at hv'; subst hv'; exact c0
          | 1, hv' => simp [encX] at hv'; subst hv'; exact c1
          | i + 2, hv' => simp [encX] at hv')
      change Calls Try.prog 31 _ _ _ at hc
      refine hc.mono ?_
      rintro e w' ⟨rfl, hb⟩
      refine ⟨ret_bool ?_, hb⟩
      rw [List.take_of_length_le (by omega), ← hzs, List.any_map]
      rfl

set_option maxHeartbeats 2000000 in
theorem points_any (v : Value) (d : List Fx) (k : Ky) (w : World) (hv : IsXs w v d) (hf : FitX d) (h1 : k.1.size ≤ maxLen) (h2 : k.2.size ≤ maxLen) :
    Calls Try.prog 14 #[v, .agg #[.string k.1, .string k.2]] w fun e w' => e = .returned (.bool (pointsB (d.map Fx.fld) k)) ∧ Below w.heap.size w w' := by
  obtain ⟨p, cap, rfl, hd, ht⟩ := hv
  cases hk : keyOK k with
  | false =>
    have HT := hid (fun W => text_no k W h1 h2 hk)
    have HN := hid (points_no (fs := d.map Fx.fld) hk)
    obtain ⟨a, b⟩ := k
    simp only at HT HN ⊢
    clear hd ht hk
    go_enter Try.func14, Try.ntmps14
    go_wp2_with (first | (go_at_call 19; refine (HT.out _).mono ?_; rintro e w1 ⟨rfl, hb1⟩))
    go_ret
    refine ⟨ret_bool HN.out.symm, ?_⟩
    have hb0 := (Below.refl w.heap.size w).alloc (Nat.le_refl _) (.cells #[.string a, .string b] 31)
    exact (bel_then hb0 hb0.size hb1).alloc (bel_then hb0 hb0.size hb1).size _
  | true =>
    have HT := hid (fun W => text_yes k W hk)
    have HE : Hid ((d.any fun x => x.txt.any fun t => decide (t = refT k)) = pointsB (d.map Fx.fld) k) := by
      show _ = _
      unfold pointsB
      rw [List.any_map]
      congr 1
      funext x
      show _ = x.txt.any _
      congr 1
      funext t
      rw [decide_eq_decide]
      exact (named_iff hk t).symm
    have HH : Hid (∀ (B : Nat) W, Below w.heap.size w W → W.cell? ⟨B, 0, none⟩ = some (.string (refT k)) → Calls Try.prog 31 #[.slice p d.length cap, .func (.func 32) #[] #[.pointer (some ⟨B, 0, none⟩)]] W fun e w' => e = .returned (.bool (d.any fun x => x.txt.any fun t => decide (t = refT k))) ∧ Below W.heap.size W w') := fun B W hW hB =>
      hasPt_any B (refT k) p cap d W hB (by
        rcases hd with h | ⟨b, off, hp, hx⟩
        · exact Or.inl h
        · exact Or.inr ⟨b, off, hp, hx.kept hW⟩) (fun x hx => TxtAt.kept (ht x hx) hW) hf
    rw [HE.out] at HH
    obtain ⟨q, hq⟩ : ∃ q, pointsB (d.map Fx.fld) k = q := ⟨_, rfl⟩
    obtain ⟨s, hs⟩ : ∃ s, refT k = s := ⟨_, rfl⟩
    rw [hq] at HH ⊢
    rw [hs] at HT HH
    obtain ⟨a, b⟩ := k
    simp only at HT ⊢
    clear hd ht hk hs hq HE
    go_enter Try.func14, Try.ntmps14
    go_wp2_with (first
      | (go_at_call 19; refine (HT.out _).mono ?_; rintro e w1 ⟨rfl, hb1⟩; have hb0 := (Below.refl w.heap.size w).alloc (Nat.le_refl _) (.cells #[.string a, .string b] 31); have HB1 := hid ((bel_then hb0 hb0.size hb1).alloc (bel_then hb0 hb0.size hb1).size (.cells #[.string s] 9)); clear hb0 hb1)
      | (go_at_call 31; refine (HH.out _ _ HB1.out (by simp [go_sem])).mono ?_; rintro e w2 ⟨rfl, hb2⟩))
    go_ret
    exact ⟨rfl, bel_then HB1.out HB1.out.size hb2⟩

end Go.Proofs.Ytinmagodckkedaa

/-
  What Resolve answers (stage 5), and what it does not hang on: the mathematics, without the program.
-/
namespace Go.Proofs.Ytinmagodckkedaa
open Go.RowKit Go.Lib

def bindOK (b : Bd) : Bool := tempB b.1.data.toList && keyOK b.2
def unboundT (bs : List Bd) (t : ByteArray) : Bool := match tempT t with
  | some n => (boundT bs n).isNone
  | none => false

/-- The error of Resolve: nm a name that can't be, tw a name twice, tm a temporary name without a key. -/
def resCode (nm tw tm : Int) (bs : List Bd) (fs : List Fld) : Int :=
  if bs.all bindOK = false then nm else if ¬ (bs.map (·.1)).Nodup then tw else if (textsF fs).any (unboundT bs) then tm else 0

def resAns (bs : List Bd) (fs : List Fld) : List Fld :=
  if bs.all bindOK = true ∧ (bs.map (·.1)).Nodup ∧ (textsF fs).any (unboundT bs) = false then mapT (resT bs) fs else []

theorem all_same {α : Type} {p : α → Bool} {l m : List α} (h : ∀ x, x ∈ l ↔ x ∈ m) : l.all p = m.all p := by
  rw [Bool.eq_iff_iff, List.all_eq_true, List.all_eq_true]
  exact ⟨fun k x hx => k x ((h x).2 hx), fun k x hx => k x ((h x).1 hx)⟩

theorem unbound_turn {bs cs : List Bd} (h1 : (bs.map (·.1)).Nodup) (h2 : (cs.map (·.1)).Nodup) (hm : ∀ x, x ∈ bs ↔ x ∈ cs) : unboundT bs = unboundT cs := by
  funext t
  unfold unboundT
  cases tempT t with
  | none => rfl
  | some n => simp only [bound_turn h1 h2 hm n]

theorem perm_turn (bs : List Bd) (k : Nat) : (bs.drop k ++ bs.take k).Perm bs := by
  have h : (bs.drop k ++ bs.take k).Perm (bs.take k ++ bs.drop k) := List.perm_append_comm
  rwa [List.take_append_drop] at h

/-- The order of binds is no matter to Resolve. -/
theorem res_perm (nm tw tm : Int) {bs cs : List Bd} (h : bs.Perm cs) (fs : List Fld) : resCode nm tw tm bs fs = resCode nm tw tm cs fs ∧ resAns bs fs = resAns cs fs := by
  have hm : ∀ x, x ∈ bs ↔ x ∈ cs := fun x => h.mem_iff
  have hn : (bs.map (·.1)).Nodup ↔ (cs.map (·.1)).Nodup := (h.map _).nodup_iff
  have ha := all_same (p := bindOK) hm
  unfold resCode resAns
  rw [ha]
  by_cases k : (bs.map (·.1)).Nodup
  · have k' := hn.1 k
    rw [unbound_turn k k' hm, res_turn k k' hm]
    refine ⟨?_, ?_⟩
    · have n1 : ¬ ¬ (bs.map (·.1)).Nodup := fun e => e k
      have n2 : ¬ ¬ (cs.map (·.1)).Nodup := fun e => e k'
      rw [if_neg n1, if_neg n2]
    · by_cases c : cs.all bindOK = true ∧ (textsF fs).any (unboundT cs) = false
      · rw [if_pos ⟨c.1, k, c.2⟩, if_pos ⟨c.1, k', c.2⟩]
      · rw [if_neg (fun e => c ⟨e.1, e.2.2⟩), if_neg (fun e => c ⟨e.1, e.2.2⟩)]
  · have k' : ¬ (cs.map (·.1)).Nodup := fun e => k (hn.2 e)
    refine ⟨?_, ?_⟩
    · rw [if_pos k, if_pos k']
    · rw [if_neg (fun e => k e.2.1), if_neg (fun e => k' e.2.1)]

theorem res_ok {nm tw tm : Int} (h1 : nm ≠ 0) (h2 : tw ≠ 0) (h3 : tm ≠ 0) {bs : List Bd} {fs : List Fld} (h : resCode nm tw tm bs fs = 0) :
    (∀ b ∈ bs, keyOK b.2 = true) ∧ (bs.map (·.1)).Nodup ∧ allBound bs fs ∧ resAns bs fs = mapT (resT bs) fs := by
  unfold resCode at h
  split at h
  · exact absurd h h1
  · next ha =>
    split at h
    · exact absurd h h2
    · next hn =>
      split at h
      · exact absurd h h3
      · next hu =>
        have ha' : bs.all bindOK = true := by simpa using ha
        have hn' : (bs.map (·.1)).Nodup := Classical.not_not.1 hn
        have hu' : (textsF fs).any (unboundT bs) = false := by simpa using hu
        refine ⟨fun b hb => ?_, hn', fun f hf t ht n hn => ?_, ?_⟩
        · have := List.all_eq_true.1 ha' b hb
          simp only [bindOK, Bool.and_eq_true] at this
          exact this.2
        · have := List.any_eq_false.1 hu' t (mem_textsF.2 ⟨f, hf, ht⟩)
          unfold unboundT at this
          rw [hn] at this
          simp only at this
          cases hb : boundT bs n with
          | none => rw [hb] at this; simp at this
          | some k => rfl
        · unfold resAns
          rw [if_pos ⟨ha', hn', hu'⟩]

theorem res_bad {nm tw tm : Int} {bs : List Bd} {fs : List Fld} (h : resCode nm tw tm bs fs ≠ 0) : resAns bs fs = [] ∧ (resCode nm tw tm bs fs = nm ∨ resCode nm tw tm bs fs = tw ∨ resCode nm tw tm bs fs = tm) := by
  unfold resCode at h ⊢
  unfold resAns
  by_cases ha : bs.all bindOK = false
  · rw [if_neg (by rw [ha]; simp), if_pos ha]
    exact ⟨rfl, Or.inl rfl⟩
  · rw [if_neg ha] at h ⊢
    by_cases hn : ¬ (bs.map (·.1)).Nodup
    · rw [if_neg (fun k => hn k.2.1), if_pos hn]
      exact ⟨rfl, Or.inr (Or.inl rfl)⟩
    · rw [if_neg hn] at h ⊢
      by_cases hu : (textsF fs).any (unboundT bs) = true
      · rw [if_neg (fun k => by rw [hu] at k; exact absurd k.2.2 (by simp)), if_pos hu]
        exact ⟨rfl, Or.inr (Or.inr rfl)⟩
      · rw [if_neg hu] at h
        exact absurd rfl h

/-- Behind Resolve a value's keys are those that it had, and those of the names that it used. -/
theorem res_union {bs : List Bd} (hk : ∀ b ∈ bs, keyOK b.2 = true) (hn : (bs.map (·.1)).Nodup) {fs : List Fld} (h : allBound bs fs) (k : Ky) :
    k ∈ keysF (mapT (resT bs) fs) ↔ k ∈ keysF fs ∨ ∃ n ∈ tempsF fs, (n, k) ∈ bs := by
  rw [mem_keysF, mem_keysF, res_points hk h k]
  constructor
  · rintro (e | ⟨f, hf, t, ht, n, e, hb⟩)
    · exact Or.inl e
    · exact Or.inr ⟨n, mem_tempsF.2 ⟨f, hf, t, ht, e⟩, bound_mem hb⟩
  · rintro (e | ⟨n, hm, hb⟩)
    · exact Or.inl e
    · obtain ⟨f, hf, t, ht, e⟩ := mem_tempsF.1 hm
      exact Or.inr ⟨f, hf, t, ht, n, e, bound_of hn hb⟩

/-- RefsUnions' own way of putting them together. -/
def unionB (bs : List Bd) (ns : List ByteArray) (ks : List Ky) : List Ky :=
  ns.foldl (fun acc n => bs.foldl (fun acc b => if b.1 = n then insR ltKy b.2 acc else acc) acc) ks

theorem union_one (bs : List Bd) (n : ByteArray) : ∀ ks : List Ky, RisingR ltKy ks → RisingR ltKy (bs.foldl (fun acc b => if b.1 = n then insR ltKy b.2 acc else acc) ks) ∧ ∀ z, z ∈ bs.foldl (fun acc b => if b.1 = n then insR ltKy b.2 acc else acc) ks ↔ z ∈ ks ∨ (n, z) ∈ bs := by
  induction bs with
  | nil => intro ks h; exact ⟨h, fun z => by simp⟩
  | cons b r ih =>
    intro ks h
    simp only [List.foldl_cons]
    by_cases e : b.1 = n
    · rw [if_pos e]
      obtain ⟨h1, h2⟩ := ih _ (rising_insR totK b.2 h)
      refine ⟨h1, fun z => ?_⟩
      rw [h2 z, mem_insR, List.mem_cons]
      obtain ⟨b1, b2⟩ := b
      simp only at e ⊢
      subst e
      constructor
      · rintro ((rfl | h) | h)
        · exact Or.inr (Or.inl rfl)
        · exact Or.inl h
        · exact Or.inr (Or.inr h)
      · rintro (h | h | h)
        · exact Or.inl (Or.inr h)
        · exact Or.inl (Or.inl (Prod.mk.inj h).2)
        · exact Or.inr h
    · rw [if_neg e]
      obtain ⟨h1, h2⟩ := ih _ h
      refine ⟨h1, fun z => ?_⟩
      rw [h2 z, List.mem_cons]
      constructor
      · rintro (h | h)
        · exact Or.inl h
        · exact Or.inr (Or.inr h)
      · rintro (h | h | h)
        · exact Or.inl h
        · exact absurd (by rw [← h]) e
        · exact Or.inr h

theorem union_all (bs : List Bd) (ns : List ByteArray) : ∀ ks : List Ky, RisingR ltKy ks → RisingR ltKy (unionB bs ns ks) ∧ ∀ z, z ∈ unionB bs ns ks ↔ z ∈ ks ∨ ∃ n ∈ ns, (n, z) ∈ bs := by
  induction ns with
  | nil => intro ks h; exact ⟨h, fun z => by simp [unionB]⟩
  | cons n r ih =>
    intro ks h
    obtain ⟨g1, g2⟩ := union_one bs n ks h
    obtain ⟨h1, h2⟩ := ih _ g1
    refine ⟨h1, fun z => ?_⟩
    have : unionB bs (n :: r) ks = unionB bs r (bs.foldl (fun acc b => if b.1 = n then insR ltKy b.2 acc else acc) ks) := rfl
    rw [this, h2 z, g2 z]
    constructor
    · rintro ((h | h) | ⟨m, hm, h⟩)
      · exact Or.inl h
      · exact Or.inr ⟨n, by simp, h⟩
      · exact Or.inr ⟨m, List.mem_cons_of_mem _ hm, h⟩
    · rintro (h | ⟨m, hm, h⟩)
      · exact Or.inl (Or.inl h)
      · rcases List.mem_cons.1 hm with rfl | hm
        · exact Or.inl (Or.inr h)
        · exact Or.inr ⟨m, hm, h⟩

theorem res_unionB {bs : List Bd} (hk : ∀ b ∈ bs, keyOK b.2 = true) (hn : (bs.map (·.1)).Nodup) {fs : List Fld} (h : allBound bs fs) :
    keysF (mapT (resT bs) fs) = unionB bs (tempsF fs) (keysF fs) := by
  obtain ⟨h1, h2⟩ := union_all bs (tempsF fs) (keysF fs) (told_rising totK _ _)
  exact rising_uniqR totK (told_rising totK _ _) h1 fun z => by rw [h2 z]; exact res_union hk hn h z

end Go.Proofs.Ytinmagodckkedaa

/-
  A map from names to keys, made of binds: what it holds, how it is looked up, and how long it is.
-/
namespace Go.Proofs.Ytinmagodckkedaa
open Go.RowKit Go.Lib Go.Maps Go.MapKept Go.ChangeMaps

def keyD (k : Ky) : DataW Unit := .agg [.lit (.string k.1.data.toList), .lit (.string k.2.data.toList)]
def keyElem (v : Value) : Option (DataW Unit × List MemPlace) := match v with
  | .agg c => match c.toList with
    | [.string a, .string b] => some (keyD (a, b), [])
    | _ => none
  | _ => none

theorem keyElem_mk (k : Ky) : keyElem (.agg #[.string k.1, .string k.2]) = some (keyD k, []) := rfl

theorem keyD_inj {a b : Ky} (h : keyD a = keyD b) : a = b := by
  unfold keyD at h
  simp only [DataW.agg.injEq, List.cons.injEq, DataW.lit.injEq, Lit.string.injEq, and_true] at h
  exact Prod.ext (ba_eq h.1) (ba_eq h.2)

theorem keyElem_inv {v : Value} {k : Ky} {ps : List MemPlace} (h : keyElem v = some (keyD k, ps)) : v = .agg #[.string k.1, .string k.2] := by
  unfold keyElem at h
  split at h
  · next c =>
    split at h
    · next a b hc =>
      simp only [Option.some.injEq, Prod.mk.injEq] at h
      have := keyD_inj h.1
      subst this
      have : c = #[.string a, .string b] := by
        apply Array.ext'
        rw [hc]
      rw [this]
    · cases h
  · cases h

def nameL (n : ByteArray) : Lit := .string n.data.toList
theorem nameL_inj {a b : ByteArray} (h : nameL a = nameL b) : a = b := by
  unfold nameL at h
  injection h with h
  exact ba_eq h

def mapD (bs : List Bd) : DataW Unit := bs.foldl (fun m x => m.put (nameL x.1) (keyD x.2)) (.map [])
theorem mapD_snoc (bs : List Bd) (x : Bd) : mapD (bs ++ [x]) = (mapD bs).put (nameL x.1) (keyD x.2) := by simp [mapD]

theorem keyedStr : Keyed Try.prog 9 := string_keyed Try.underlying9
theorem name_key {n : ByteArray} (hs : n.size ≤ maxLen) : keyOf Try.prog 9 (.string n) = some (nameL n) := WideMaps.keyOf_string_mk Try.underlying9 hs
theorem name_lit {n : ByteArray} (hs : n.size ≤ maxLen) : WideAt.IsKeyLit (nameL n) := keyedStr.key (name_key hs)

def FitB (bs : List Bd) : Prop := ∀ b ∈ bs, b.1.size ≤ maxLen

theorem mapD_tidy : ∀ (bs : List Bd), FitB bs → Tidy (mapD bs) := by
  intro bs
  have : ∀ l : List Bd, FitB l.reverse → Tidy (mapD l.reverse) := by
    intro l
    induction l with
    | nil => intro _; exact tidy_empty
    | cons x r ih =>
      intro h
      rw [List.reverse_cons] at h ⊢
      rw [mapD_snoc]
      exact (ih fun b hb => h b (List.mem_append_left _ hb)).put (name_lit (h x (by simp))) _
  intro h
  have := this bs.reverse (by rw [List.reverse_reverse]; exact h)
  rwa [List.reverse_reverse] at this

theorem fitB_init {bs : List Bd} {x : Bd} (h : FitB (bs ++ [x])) : FitB bs ∧ x.1.size ≤ maxLen := ⟨fun b hb => h b (List.mem_append_left _ hb), h x (by simp)⟩

theorem snoc_ind {α : Type} {p : List α → Prop} (h0 : p []) (h1 : ∀ l x, p l → p (l ++ [x])) : ∀ l, p l := by
  intro l
  have : ∀ l : List α, p l.reverse := by
    intro l
    induction l with
    | nil => exact h0
    | cons x r ih => rw [List.reverse_cons]; exact h1 _ _ ih
  have := this l.reverse
  rwa [List.reverse_reverse] at this

theorem mapD_has (n : ByteArray) : ∀ (bs : List Bd), FitB bs → has (mapD bs) (nameL n) = bs.any fun b => decide (b.1 = n) := by
  refine snoc_ind (fun _ => rfl) fun bs x ih h => ?_
  obtain ⟨h1, h2⟩ := fitB_init h
  rw [mapD_snoc, List.any_append]
  by_cases e : x.1 = n
  · subst e
    rw [has_put_same (mapD_tidy bs h1).isMap (name_lit h2)]
    simp
  · rw [has_put_other (fun k => e (nameL_inj k).symm), ih h1]
    simp [e]

theorem mapD_size : ∀ (bs : List Bd), FitB bs → size (mapD bs) ≤ bs.length ∧ (size (mapD bs) = bs.length ↔ (bs.map (·.1)).Nodup) := by
  refine snoc_ind (fun _ => by simp [mapD, size]) fun bs x ih h => ?_
  obtain ⟨h1, h2⟩ := fitB_init h
  obtain ⟨i1, i2⟩ := ih h1
  rw [mapD_snoc, size_put (mapD_tidy bs h1), mapD_has x.1 bs h1, List.length_append, List.map_append]
  have hmem : (bs.any fun b => decide (b.1 = x.1)) = true ↔ x.1 ∈ bs.map (·.1) := by
    rw [List.any_eq_true, List.mem_map]
    constructor
    · rintro ⟨b, hb, e⟩; exact ⟨b, hb, of_decide_eq_true e⟩
    · rintro ⟨b, hb, e⟩; exact ⟨b, hb, decide_eq_true e⟩
  cases ha : bs.any fun b => decide (b.1 = x.1) with
  | true =>
    rw [if_pos rfl]
    refine ⟨by simp; omega, ⟨fun e => ?_, fun e => ?_⟩⟩
    · simp at e; omega
    · have := List.nodup_append.1 e
      exact absurd rfl (this.2.2 x.1 (hmem.1 ha) x.1 (by simp))
  | false =>
    rw [if_neg (by simp)]
    refine ⟨by simp; omega, ⟨fun e => ?_, fun e => ?_⟩⟩
    · have e' : size (mapD bs) = bs.length := by simp at e; exact e
      refine List.nodup_append.2 ⟨i2.1 e', by simp, fun a ha' b hb => ?_⟩
      simp at hb
      rintro rfl
      rw [hb] at ha'
      rw [hmem.2 ha'] at ha
      cases ha
    · have := i2.2 (List.nodup_append.1 e).1
      simp [this]

theorem mapD_at (n : ByteArray) (z : DataW Unit) : ∀ (bs : List Bd), FitB bs → (bs.map (·.1)).Nodup → (mapD bs).atKey (nameL n) z = match boundT bs n with | some k => keyD k | none => z := by
  refine snoc_ind (fun _ _ => rfl) fun bs x ih h hn => ?_
  obtain ⟨h1, h2⟩ := fitB_init h
  rw [List.map_append] at hn
  have hn1 := (List.nodup_append.1 hn).1
  have hx : x.1 ∉ bs.map (·.1) := fun e => (List.nodup_append.1 hn).2.2 x.1 e x.1 (by simp) rfl
  rw [mapD_snoc]
  by_cases e : x.1 = n
  · subst e
    rw [atKey_put_same (mapD_tidy bs h1).isMap (name_lit h2)]
    have : boundT (bs ++ [x]) x.1 = some x.2 := bound_of (by rw [List.map_append]; exact hn) (by simp)
    rw [this]
  · rw [atKey_put_other (fun k => e (nameL_inj k).symm), ih h1 hn1]
    have : boundT (bs ++ [x]) n = boundT bs n := by
      unfold boundT
      rw [List.find?_append]
      cases bs.find? fun b => decide (b.1 = n) with
      | some y => rfl
      | none => simp [e]
    rw [this]

theorem bound_any (n : ByteArray) (bs : List Bd) : (boundT bs n).isSome = bs.any fun b => decide (b.1 = n) := by
  unfold boundT
  rw [Option.isSome_map, Bool.eq_iff_iff, List.find?_isSome, List.any_eq_true]

/-- Block b is the map of the binds. -/
def MapB (W : World) (b : Nat) (bs : List Bd) : Prop := W.ownsMap Try.prog 9 keyElem b bs.length (mapD bs)

theorem mapB_made (w : World) : MapB (w.alloc (.map #[] 0)) w.heap.size [] := World.ownsMap_made _ _ _ _
theorem MapB.on {W W' : World} {b : Nat} {bs : List Bd} (h : MapB W b bs) (hb : Below W.heap.size W W') : MapB W' b bs := by
  have hlt := World.ownsMap.lt h
  obtain ⟨es, clock, h1, h2⟩ := h
  exact ⟨es, clock, (hb.block b hlt).trans h1, h2⟩

theorem zeroKy (w : World) : (zeroValue 31).run Try.prog w = .ok (.agg #[.string ⟨#[]⟩, .string ⟨#[]⟩]) w := Try.zeroValue31 w

def keyOr (o : Option Ky) : Ky := o.getD (⟨#[]⟩, ⟨#[]⟩)

theorem mapB_look {W : World} {b : Nat} {bs : List Bd} (h : MapB W b bs) (hf : FitB bs) (hn : (bs.map (·.1)).Nodup) {n : ByteArray} (hs : n.size ≤ maxLen) :
    (Instr.lookup 54 (.map (some b)) (.string n) true).run Try.prog W = .ok (.tuple #[.agg #[.string (keyOr (boundT bs n)).1, .string (keyOr (boundT bs n)).2], .bool (boundT bs n).isSome]) W := by
  obtain ⟨v, ps, hrun, hv⟩ := World.ownsMap.look_ok h keyedStr Try.underlying54 (zeroKy W) (keyElem_mk (⟨#[]⟩, ⟨#[]⟩)) (name_key hs)
  rw [mapD_at n _ bs hf hn] at hv
  rw [mapD_has n bs hf, ← bound_any] at hrun
  rw [hrun]
  cases hb : boundT bs n with
  | none => rw [hb] at hv; rw [keyElem_inv hv]; rfl
  | some k => rw [hb] at hv; rw [keyElem_inv hv]; rfl

theorem mapB_get {W : World} {b : Nat} {bs : List Bd} (h : MapB W b bs) (hf : FitB bs) (hn : (bs.map (·.1)).Nodup) {n : ByteArray} (hs : n.size ≤ maxLen) :
    (Instr.lookup 54 (.map (some b)) (.string n) false).run Try.prog W = .ok (.agg #[.string (keyOr (boundT bs n)).1, .string (keyOr (boundT bs n)).2]) W := by
  obtain ⟨v, ps, hrun, hv⟩ := World.ownsMap.lookup h keyedStr Try.underlying54 (zeroKy W) (keyElem_mk (⟨#[]⟩, ⟨#[]⟩)) (name_key hs)
  rw [mapD_at n _ bs hf hn] at hv
  rw [hrun]
  cases hb : boundT bs n with
  | none => rw [hb] at hv; rw [keyElem_inv hv]; rfl
  | some k => rw [hb] at hv; rw [keyElem_inv hv]; rfl

theorem mapB_put {W : World} {b : Nat} {bs : List Bd} (h : MapB W b bs) (hl : bs.length < maxLen) (x : Bd) (hs : x.1.size ≤ maxLen) :
    ∃ W', (Instr.mapUpdate 54 (.map (some b)) (.string x.1) (.agg #[.string x.2.1, .string x.2.2])).run Try.prog W = .ok () W' ∧ MapB W' b (bs ++ [x]) ∧ W.grownBy W' (some b) := by
  obtain ⟨W', h1, h2, h3⟩ := World.ownsMap.update h keyedStr Try.underlying54 hl (name_key hs) (keyElem_mk x.2)
  refine ⟨W', h1, ?_, h3⟩
  unfold MapB
  rw [mapD_snoc, List.length_append]
  exact h2

theorem mapB_len {W : World} {b : Nat} {bs : List Bd} (h : MapB W b bs) (ty : TypeId) : (Builtin.len_ #[54] ty #[.map (some b)]).run Try.prog W = .ok (.int .i64 (size (mapD bs))) W :=
  World.ownsMap.len h Try.underlying54 ty

end Go.Proofs.Ytinmagodckkedaa

/-
  The contract of bound of package refs: the map of binds.
-/
namespace Go.Proofs.Ytinmagodckkedaa
open Go.RowKit Go.Lib Go.Maps Go.MapKept Go.ChangeMaps

/-- Binds that a machine can hold. -/
def FitBd (bs : List Bd) : Prop := bs.length ≤ 2000000 ∧ ∀ b ∈ bs, b.1.size ≤ maxLen ∧ b.2.1.size ≤ maxLen ∧ b.2.2.size ≤ maxLen
theorem FitBd.fitB {bs : List Bd} (h : FitBd bs) : FitB bs := fun b hb => (h.2 b hb).1

def BdPost (w : World) (bs : List Bd) (e : Ending) (w' : World) : Prop :=
  Below w.heap.size w w' ∧ ((bs.all bindOK = false ∧ e = .returned (.tuple #[.map none, .int .i64 2])) ∨
    (bs.all bindOK = true ∧ ¬ (bs.map (·.1)).Nodup ∧ e = .returned (.tuple #[.map none, .int .i64 16])) ∨
    (bs.all bindOK = true ∧ (bs.map (·.1)).Nodup ∧ ∃ b, e = .returned (.tuple #[.map (some b), .int .i64 0]) ∧ w.heap.size ≤ b ∧ MapB w' b bs))

theorem box3 {w w2 : World} {T : TypeId} {x y z : Value} (hb : Below (w.alloc (.cells #[x, y, z] T)).heap.size (w.alloc (.cells #[x, y, z] T)) w2) :
    w2.cell? ⟨w.heap.size, 0, none⟩ = some x ∧ w2.cell? ⟨w.heap.size, 1, none⟩ = some y ∧ w2.cell? ⟨w.heap.size, 2, none⟩ = some z := by
  have h0 : (w.alloc (.cells #[x, y, z] T)).heap[w.heap.size]? = some (.cells #[x, y, z] T (0, 0)) := heap_alloc_new w _
  have h1 := (hb.block _ (Array.getElem?_eq_some_iff.1 h0).1).trans h0
  rw [Lib.cell_of_heap h1, Lib.cell_of_heap h1, Lib.cell_of_heap h1]
  exact ⟨rfl, rfl, rfl⟩

theorem MapB.lt {W : World} {b : Nat} {bs : List Bd} (h : MapB W b bs) : b < W.heap.size := World.ownsMap.lt h

theorem run_makeMapH (n : Int) (W : World) : (Instr.makeMap 54 (some (.int .i64 n))).run Try.prog W = .ok (.map (some W.heap.size)) (W.alloc (.map #[] 0)) := by
  simp [Instr.makeMap, run_underlying Try.underlying54, asInt]
  rfl

set_option maxHeartbeats 4000000 in
set_option maxRecDepth 100000 in
theorem bound_is (v : Value) (bs : List Bd) (w : World) (hv : KB.Is w v bs) (hf : FitBd bs) :
    Calls Try.prog 20 #[v] w fun e w' => BdPost w bs e w' := by
  obtain ⟨p, cap, rfl, hd⟩ := hv
  have HD := hid hd
  have HF := hid hf
  have hl := hf.1
  clear hd hf
  have HM0 : Hid (MapB (w.alloc (.map #[] 0)) w.heap.size []) := mapB_made w
  have hmm := run_makeMapH
  go_enter Try.func20, Try.ntmps20
  go_wp2_with fail
  go_loopg [12] bs.length (fun g vi wr => ∃ i : Nat, vi = .int .i64 i ∧ i ≤ bs.length ∧ bs.length - i ≤ g ∧ Hid (Below w.heap.size w wr) ∧ Hid (MapB wr w.heap.size (bs.take i)) ∧ Hid ((bs.take i).all bindOK = true))
  case atStart => exact ⟨0, rfl, by omega, by omega, (Below.refl _ _).alloc (Nat.le_refl _) _, HM0.out, rfl⟩
  case round =>
    obtain ⟨i, rfl, hi, hgk, HB, HM, HA⟩ := hrel
    by_cases hlt : i < bs.length
    · have hltz : (i : Int) < (bs.length : Int) := by omega
      have hiz : (0 : Int) ≤ i := by omega
      obtain ⟨b, off, rfl, hat⟩ : ∃ b off, p = some ⟨b, off, none⟩ ∧ KB.At w b off bs := by
        rcases HD.out with h | h
        · subst h; simp at hlt
        · exact h
      obtain ⟨c0, c1, c2⟩ := kb_at (Kind.at_kept hat HB.out) i hlt
      obtain ⟨f0, f1, f2⟩ := HF.out.2 _ (List.getElem_mem hlt)
      have hmem := List.getElem_mem hlt
      have htk : bs.take (i + 1) = bs.take i ++ [bs[i]] := List.take_succ_eq_append_getElem hlt
      have hL : (bs.take i).length = i := by rw [List.length_take]; omega
      obtain ⟨x, hx⟩ : ∃ x, bs[i] = x := ⟨_, rfl⟩
      rw [hx] at c0 c1 c2 f0 f1 f2 hmem htk
      obtain ⟨nm, ka, kb⟩ := x
      simp only at c0 c1 c2 f0 f1 f2
      have HT := hid (fun W => temp_any nm W f0)
      have HK := hid (fun W => key_any ka kb W f1 f2)
      have hbd : bindOK (nm, ka, kb) = (tempB nm.data.toList && keyB ka kb) := rfl
      have HBD := hid hbd
      have HTK := hid htk
      have HME := hid hmem
      have HF0 := hid f0
      have hsz := HB.out.size
      have HB1 := hid (HB.out.alloc hsz (.cells #[.string nm, .string ka, .string kb] 51))
      have HM1 := hid (HM.out.on ((Below.refl _ wr).alloc (Nat.le_refl _) (.cells #[.string nm, .string ka, .string kb] 51)))
      obtain ⟨G, hG⟩ : ∃ G, bs.take i = G := ⟨_, rfl⟩
      rw [hG] at HM1 HTK HA hL
      clear hat hx hmem htk hbd HM f0 f1 f2 hG
      cases hT : tempB nm.data.toList with
      | false =>
        rw [hT] at HT
        have HX : Hid (bs.all bindOK = false) := by
          show _ = _
          rw [List.all_eq_false]
          exact ⟨_, HME.out, by rw [HBD.out, hT]; simp⟩
        go_wp2_with (first | (go_at_call 40; refine (HT.out _).mono ?_; rintro e w1 ⟨rfl, rfl⟩))
        go_ret2
        exact ⟨HB1.out, Or.inl ⟨HX.out, rfl⟩⟩
      | true =>
        rw [hT] at HT
        cases hK : keyB ka kb with
        | false =>
          rw [hK] at HK
          have HX : Hid (bs.all bindOK = false) := by
            show _ = _
            rw [List.all_eq_false]
            exact ⟨_, HME.out, by rw [HBD.out, hT, hK]; simp⟩
          go_wp2_with (first | (go_at_call 40; refine (HT.out _).mono ?_; rintro e w1 ⟨rfl, rfl⟩) | (go_at_call 41; refine (HK.out _).mono ?_; rintro e w2 ⟨rfl, hb2⟩))
          go_ret2
          exact ⟨bel_then HB1.out HB1.out.size hb2, Or.inl ⟨HX.out, rfl⟩⟩
        | true =>
          rw [hK] at HK
          have HX : Hid (bindOK (nm, ka, kb) = true) := by show _ = _; rw [HBD.out, hT, hK]; rfl
          go_wp2_with (first
            | (go_at_call 40; refine (HT.out _).mono ?_; rintro e w1 ⟨rfl, rfl⟩)
            | (go_at_call 41; refine (HK.out _).mono ?_; rintro e w2 ⟨rfl, hb2⟩; obtain ⟨d0, d1, d2⟩ := box3 hb2; have HM2 := hid (HM1.out.on hb2); have HB2 := hid (bel_then HB1.out HB1.out.size hb2); clear hb2)
            | (at_mapUpdate; refine wpList_mapUpdate_own _ rfl _ _ _ 54 rfl 9 31 keyedStr Try.underlying54 keyElem w.heap.size G.length (mapD G) rfl HM2.out (by unfold maxLen; omega) _ _ (nameL nm) rfl rfl (name_key HF0.out) (keyD (ka, kb)) [] rfl ?_; intro w3 hown3 hg3; have HO3 := hid hown3; have HG3 := hid hg3; clear hown3 hg3))
          go_roundg (bs.length - (i + 1))
          case measure => omega
          refine ⟨i + 1, by go_num, by omega, by omega, ?_, ?_, ?_⟩
          · exact HB2.out.grown HG3.out HB2.out.size (fun k hk => by cases hk; exact Nat.le_refl _)
          · rw [HTK.out]
            show MapB _ _ _
            unfold MapB
            rw [mapD_snoc, List.length_append]
            exact HO3.out
          · rw [HTK.out]
            show _ = _
            rw [List.all_append, HA.out]
            simpa using HX.out
    · have hltz : ¬ (i : Int) < (bs.length : Int) := by omega
      have hti : bs.take i = bs := List.take_of_length_le (by omega)
      rw [hti] at HM HA
      have hlen := fun ty => mapB_len HM.out ty
      obtain ⟨s1, s2⟩ := mapD_size bs HF.out.fitB
      have S2 := hid s2
      obtain ⟨M, hM⟩ : ∃ M, size (mapD bs) = M := ⟨_, rfl⟩
      rw [hM] at hlen s1 S2
      clear hti hM s2
      by_cases hlt2 : M < bs.length
      · have hz2 : (M : Int) < (bs.length : Int) := by omega
        have HN : Hid (¬ (bs.map (·.1)).Nodup) := fun h => by have := S2.out.2 h; omega
        go_wp2_with fail
        go_ret2
        exact ⟨HB.out, Or.inr (Or.inl ⟨HA.out, HN.out, rfl⟩)⟩
      · have hz2 : ¬ (M : Int) < (bs.length : Int) := by omega
        have HN : Hid ((bs.map (·.1)).Nodup) := S2.out.1 (by omega)
        go_wp2_with fail
        go_ret2
        exact ⟨HB.out, Or.inr (Or.inr ⟨HA.out, HN.out, _, rfl, Nat.le_refl _, HM.out⟩)⟩

end Go.Proofs.Ytinmagodckkedaa

/-
  The contracts of Rename and Resolve of package refs.
-/
namespace Go.Proofs.Ytinmagodckkedaa
open Go.RowKit Go.Lib Go.Maps

set_option maxHeartbeats 1000000 in
theorem rename1_any (A B : Nat) (s r t : ByteArray) (w : World) (h1 : w.cell? ⟨A, 0, none⟩ = some (.string s)) (h2 : w.cell? ⟨B, 0, none⟩ = some (.string r)) :
    Calls Try.prog 30 #[.string t, .pointer (some ⟨A, 0, none⟩), .pointer (some ⟨B, 0, none⟩)] w fun e w' => e = .returned (.string (if t = s then r else t)) ∧ w' = w := by
  by_cases h : t = s
  · rw [if_pos h]
    have hb := seq_true h
    clear h
    go_enter Try.func30, Try.ntmps30
    go_wp2_with fail
    go_ret
    exact ⟨rfl, rfl⟩
  · rw [if_neg h]
    have hb := seq_false h
    clear h
    go_enter Try.func30, Try.ntmps30
    go_wp2_with fail
    go_ret
    exact ⟨rfl, rfl⟩

theorem enters_rename1 : ∀ args w, (callFunc 30 args).run Try.prog w = .ok (.enter 30 args) w := enters_of Try.func30 (by kernel_rfl) rfl
theorem enters_resolve1 : ∀ args w, (callFunc 22 args).run Try.prog w = .ok (.enter 22 args) w := enters_of Try.func22 (by kernel_rfl) rfl

theorem ren_text {a b : Ky} (ha : keyOK a = true) (t : ByteArray) : (if t = refT a then refT b else t) = renT a b t := by
  unfold renT
  by_cases h : t = refT a
  · rw [if_pos h, if_pos ((named_iff ha t).2 h)]
  · rw [if_neg h, if_neg fun k => h ((named_iff ha t).1 k)]

/-- What Rename answers. -/
def renCode (a b : Ky) : Int := if keyOK a = true ∧ keyOK b = true then 0 else 2
def renAns (a b : Ky) (fs : List Fld) : List Fld := if keyOK a = true ∧ keyOK b = true then mapT (renT a b) fs else []

def AnsJ (w : World) (fs : List Fld) (c : Int) (e : Ending) (w' : World) : Prop := ∃ u o, e = .returned (.tuple #[u, .int .i64 c]) ∧ OwnJ w.heap.size w' u o ∧ o.map Fx.fld = fs ∧ Below w.heap.size w w'

theorem own_noneX (N : Nat) (w : World) : OwnJ N w (.slice none 0 0) [] := ⟨⟨World.ownsRow_nil _ _ _ _, fun x hx => by simp at hx⟩, List.Pairwise.nil⟩

/-- Sizes that allow a copy. -/
def CopyX (d : List Fx) : Prop := d.length * 40 ≤ 140737488355328 ∧ ∀ x ∈ d, x.txt.length * 16 ≤ 140737488355328

theorem own_weakJ {N M : Nat} {w : World} {u : Value} {o : List Fx} (h : OwnJ N w u o) (hm : M ≤ N) : OwnJ M w u o := ⟨⟨own_weak h.1.1 hm, fun x hx => own_weak (h.1.2 x hx) hm⟩, h.2⟩

set_option maxHeartbeats 4000000 in
set_option maxRecDepth 100000 in
theorem rename_any (v : Value) (d : List Fx) (a b : Ky) (w : World) (hv : IsXs w v d) (hf : FitX d) (hc : CopyX d) (ha1 : a.1.size ≤ maxLen) (ha2 : a.2.size ≤ maxLen) (hb1 : b.1.size ≤ maxLen) (hb2 : b.2.size ≤ maxLen) :
    Calls Try.prog 12 #[v, .agg #[.string a.1, .string a.2], .agg #[.string b.1, .string b.2]] w fun e w' => AnsJ w (renAns a b (d.map Fx.fld)) (renCode a b) e w' := by
  have hbx : Below w.heap.size w ((w.alloc (.cells #[.string a.1, .string a.2] 31)).alloc (.cells #[.string b.1, .string b.2] 31)) := ((Below.refl _ _).alloc (Nat.le_refl _) _).alloc (by simp) _
  cases ha : keyOK a with
  | false =>
    have HR : Hid (renCode a b = 2 ∧ renAns a b (d.map Fx.fld) = []) := by
      have : ¬ (keyOK a = true ∧ keyOK b = true) := by rw [ha]; simp
      exact ⟨if_neg this, if_neg this⟩
    rw [HR.out.1, HR.out.2]
    have HT := hid (fun W => text_no a W ha1 ha2 ha)
    have HBX := hid hbx
    obtain ⟨a1, a2⟩ := a
    obtain ⟨b1, b2⟩ := b
    simp only at HT HBX ⊢
    clear hv hf ha HR hbx
    go_enter Try.func12, Try.ntmps12
    go_wp2_with (first | (go_at_call 19; refine (HT.out _).mono ?_; rintro e w1 ⟨rfl, hq1⟩))
    go_ret2
    refine ⟨_, [], rfl, own_noneX _ _, rfl, ?_⟩
    exact (bel_then HBX.out HBX.out.size hq1).alloc (bel_then HBX.out HBX.out.size hq1).size _
  | true =>
    have HT := hid (fun W => text_yes a W ha)
    cases hb : keyOK b with
    | false =>
      have HR : Hid (renCode a b = 2 ∧ renAns a b (d.map Fx.fld) = []) := by
        have : ¬ (keyOK a = true ∧ keyOK b = true) := by rw [hb]; simp
        exact ⟨if_neg this, if_neg this⟩
      rw [HR.out.1, HR.out.2]
      have HT2 := hid (fun W => text_no b W hb1 hb2 hb)
      have HBX := hid hbx
      obtain ⟨s, hs⟩ : ∃ s, refT a = s := ⟨_, rfl⟩
      rw [hs] at HT
      obtain ⟨a1, a2⟩ := a
      obtain ⟨b1, b2⟩ := b
      simp only at HT HT2 HBX ⊢
      clear hv hf ha hb HR hbx hs
      have kb : ∀ W, Below ((w.alloc (.cells #[.string a1, .string a2] 31)).alloc (.cells #[.string b1, .string b2] 31)).heap.size ((w.alloc (.cells #[.string a1, .string a2] 31)).alloc (.cells #[.string b1, .string b2] 31)) W → ∀ o, (W.alloc o).cell? ⟨w.heap.size + 1, 0, none⟩ = some (.string b1) ∧ (W.alloc o).cell? ⟨w.heap.size + 1, 1, none⟩ = some (.string b2) := fun W hW o => by
        have h0 := heap_alloc_new (w.alloc (.cells #[.string a1, .string a2] 31)) (.cells #[.string b1, .string b2] 31)
        rw [World.size_alloc] at h0
        have hlt := (Array.getElem?_eq_some_iff.1 h0).1
        have h1 := (hW.block _ hlt).trans h0
        have h2 := (Below.heap_alloc W o (w.heap.size + 1) (Nat.lt_of_lt_of_le hlt hW.size)).trans h1
        rw [Lib.cell_of_heap h2, Lib.cell_of_heap h2]
        exact ⟨rfl, rfl⟩
      have KB1 := hid kb
      clear kb
      go_enter Try.func12, Try.ntmps12
      go_wp2_with fail
      refine (HT.out _).mono ?_
      rintro e w1 ⟨rfl, hq1⟩
      obtain ⟨kc0, kc1⟩ := KB1.out w1 hq1 (.cells #[.string s] 9)
      have HB1 := hid ((bel_then HBX.out HBX.out.size hq1).alloc (bel_then HBX.out HBX.out.size hq1).size (.cells #[.string s] 9))
      clear hq1
      go_wp2_with fail
      refine (HT2.out _).mono ?_
      rintro e w2 ⟨rfl, hq2⟩
      go_wp2_with fail
      go_ret2
      refine ⟨_, [], rfl, own_noneX _ _, rfl, ?_⟩
      exact (bel_then HB1.out HB1.out.size hq2).alloc (bel_then HB1.out HB1.out.size hq2).size _
    | true =>
      have HR : Hid (renCode a b = 0 ∧ renAns a b (d.map Fx.fld) = mapT (renT a b) (d.map Fx.fld)) := by
        have : keyOK a = true ∧ keyOK b = true := ⟨ha, hb⟩
        exact ⟨if_pos this, if_pos this⟩
      rw [HR.out.1, HR.out.2]
      have HT2 := hid (fun W => text_yes b W hb)
      have HBX := hid hbx
      have HCH : Hid (∀ (A B : Nat) W, Below w.heap.size w W → W.cell? ⟨A, 0, none⟩ = some (.string (refT a)) → W.cell? ⟨B, 0, none⟩ = some (.string (refT b)) → Calls Try.prog 21 #[v, .func (.func 30) #[] #[.pointer (some ⟨A, 0, none⟩), .pointer (some ⟨B, 0, none⟩)]] W fun e w' => ∃ u o, e = .returned u ∧ OwnJ W.heap.size w' u o ∧ o.map Fx.fld = mapT (renT a b) (d.map Fx.fld) ∧ Below W.heap.size W w') := fun A B W hW h1 h2 =>
        changed_any 30 _ (renT a b) v d W (hv.kept hW) hf (by have := hc.1; omega) (fun x hx => by have := hc.2 x hx; omega) enters_rename1 (fun t _ W' hW' => by
          have := rename1_any A B (refT a) (refT b) t W' ((hW'.cell (p := ⟨A, 0, none⟩) (cell_block h1)).trans h1) ((hW'.cell (p := ⟨B, 0, none⟩) (cell_block h2)).trans h2)
          rw [ren_text ha] at this
          exact this.mono fun e w' ⟨p1, p2⟩ => ⟨p1, by rw [p2]; exact Below.refl _ _⟩)
      obtain ⟨s, hs⟩ : ∃ s, refT a = s := ⟨_, rfl⟩
      obtain ⟨r, hr⟩ : ∃ r, refT b = r := ⟨_, rfl⟩
      rw [hs] at HT HCH
      rw [hr] at HT2 HCH
      obtain ⟨G, hG⟩ : ∃ G, mapT (renT a b) (d.map Fx.fld) = G := ⟨_, rfl⟩
      rw [hG] at HCH ⊢
      obtain ⟨a1, a2⟩ := a
      obtain ⟨b1, b2⟩ := b
      simp only at HT HT2 HBX HCH ⊢
      clear hv hf ha hb HR hbx hs hr hG hc
      have kb : ∀ W, Below ((w.alloc (.cells #[.string a1, .string a2] 31)).alloc (.cells #[.string b1, .string b2] 31)).heap.size ((w.alloc (.cells #[.string a1, .string a2] 31)).alloc (.cells #[.string b1, .string b2] 31)) W → ∀ o, (W.alloc o).cell? ⟨w.heap.size + 1, 0, none⟩ = some (.string b1) ∧ (W.alloc o).cell? ⟨w.heap.size + 1, 1, none⟩ = some (.string b2) := fun W hW o => by
        have h0 := heap_alloc_new (w.alloc (.cells #[.string a1, .string a2] 31)) (.cells #[.string b1, .string b2] 31)
        rw [World.size_alloc] at h0
        have hlt := (Array.getElem?_eq_some_iff.1 h0).1
        have h1 := (hW.block _ hlt).trans h0
        have h2 := (Below.heap_alloc W o (w.heap.size + 1) (Nat.lt_of_lt_of_le hlt hW.size)).trans h1
        rw [Lib.cell_of_heap h2, Lib.cell_of_heap h2]
        exact ⟨rfl, rfl⟩
      have KB1 := hid kb
      clear kb
      have hone : ∀ (W : World) (x : ByteArray), (W.alloc (.cells #[.string x] 9)).cell? ⟨W.heap.size, 0, none⟩ = some (.string x) := fun W x => by rw [Lib.cell_of_heap (heap_alloc_new W _)]; rfl
      have HONE := hid hone
      clear hone
      go_enter Try.func12, Try.ntmps12
      go_wp2_with fail
      refine (HT.out _).mono ?_
      rintro e w1 ⟨rfl, hq1⟩
      obtain ⟨kc0, kc1⟩ := KB1.out w1 hq1 (.cells #[.string s] 9)
      have HB1 := hid ((bel_then HBX.out HBX.out.size hq1).alloc (bel_then HBX.out HBX.out.size hq1).size (.cells #[.string s] 9))
      clear hq1
      go_wp2_with fail
      refine (HT2.out _).mono ?_
      rintro e w2 ⟨rfl, hq2⟩
      have HB2 := hid ((bel_then HB1.out HB1.out.size hq2).alloc (bel_then HB1.out HB1.out.size hq2).size (.cells #[.string r] 9))
      have HC1 := hid (kept_new (.cells #[.string r] 9) (kept hq2 (HONE.out w1 s)))
      clear hq2
      go_wp2_with fail
      refine (HCH.out w1.heap.size w2.heap.size _ HB2.out HC1.out (HONE.out w2 r)).mono ?_
      rintro e w3 ⟨u3, o3, rfl, hj3, hm3, hq3⟩
      have HJ3 := hid hj3
      have HM3 := hid hm3
      clear hj3 hm3
      go_wp2_with fail
      go_ret2
      exact ⟨_, o3, rfl, own_weakJ HJ3.out HB2.out.size, HM3.out, bel_then HB2.out HB2.out.size hq3⟩

end Go.Proofs.Ytinmagodckkedaa

/-
  The contracts of Named, Temp, bound and put of the reference.
-/
namespace Go.Proofs.Ytinmagodckkedaa
open Go.RowKit

theorem byte_ne {c d : UInt8} (h : c ≠ d) : ((c.toNat : Int) != (d.toNat : Int)) = true := by
  rw [bne_iff_ne]
  intro e
  exact h (UInt8.toNat_inj.1 (by omega))

set_option maxHeartbeats 1000000 in
theorem rnamed_is (t : ByteArray) (hs : t.size ≤ maxLen) :
    ∃ (k : Ky) (b : Bool), NAns t k b ∧ ∀ w, Calls Try.prog 17 #[.string t] w fun e w' => e = .returned (.tuple #[.agg #[.string k.1, .string k.2], .bool b]) ∧ Below w.heap.size w w' := by
  rcases named_byte t with ⟨⟨h0, h1⟩, h3⟩ | ⟨h1, h3⟩
  · obtain ⟨k, c, hp⟩ := pans_is (t.extract 1 t.size)
    have HC := hid (fun w => rparse_is (t.extract 1 t.size) (ext_size t 1 t.size hs) hp w)
    have hb : ∃ b : Bool, NAns t k b ∧ (c == 0) = b := by
      rcases hp with ⟨hp, rfl⟩ | ⟨hp, _, rfl⟩
      · exact ⟨true, Or.inl ⟨h3.trans hp, rfl⟩, rfl⟩
      · exact ⟨false, Or.inr ⟨h3.trans hp, rfl⟩, rfl⟩
    obtain ⟨b, hn, he⟩ := hb
    refine ⟨k, b, hn, fun w => ?_⟩
    have hz : ((t.size : Int) == 0) = false := by rw [beq_eq_false_iff_ne]; omega
    have hz1 : (1 : Int) ≤ (t.size : Int) := by omega
    have hc : ((t[0].toNat : Int) != 42) = false := by rw [h1]; rfl
    clear hp hn h3
    obtain ⟨k1, k2⟩ := k
    simp only at HC ⊢
    go_enter Try.func17, Try.ntmps17
    go_wp2_with fail
    refine (HC.out _).mono ?_
    rintro e w2 ⟨rfl, hb2⟩
    obtain ⟨q0, q1, q2, q3⟩ := box_two (n1 := 0) hb2
    go_wp2_with fail
    exact bodyPost_ret (v := .tuple #[.agg #[.string k1, .string k2], .bool b]) (by simp [results, Try.results17, go_sem, q0, q1]) rfl
      ⟨rfl, (((((Below.refl _ _).alloc (Nat.le_refl _) _).trans (hb2.mono (by simp))).alloc (by have := hb2.size; simp at this; omega) _).setCell (by simp) _).setCell (by simp) _⟩
  · refine ⟨(⟨#[]⟩, ⟨#[]⟩), false, Or.inr ⟨h3, rfl⟩, fun w => ?_⟩
    clear h3
    by_cases h0 : 0 < t.size
    · have hz : ((t.size : Int) == 0) = false := by rw [beq_eq_false_iff_ne]; omega
      have hz1 : (0 : Int) < (t.size : Int) := by omega
      have hc : ((t[0].toNat : Int) != 42) = true := byte_ne (h1 h0)
      clear h1
      go_enter Try.func17, Try.ntmps17
      go_wp2_with fail
      exact bodyPost_ret (v := .tuple #[.agg #[.string ⟨#[]⟩, .string ⟨#[]⟩], .bool false]) (by simp [results, Try.results17, go_sem]) rfl
        ⟨rfl, (Below.refl _ _).alloc (Nat.le_refl _) _⟩
    · have hz : ((t.size : Int) == 0) = true := by have : t.size = 0 := by omega
                                                   rw [this]; rfl
      clear h1
      go_enter Try.func17, Try.ntmps17
      go_wp2_with fail
      exact bodyPost_ret (v := .tuple #[.agg #[.string ⟨#[]⟩, .string ⟨#[]⟩], .bool false]) (by simp [results, Try.results17, go_sem]) rfl
        ⟨rfl, (Below.refl _ _).alloc (Nat.le_refl _) _⟩

set_option maxHeartbeats 1000000 in
theorem rtempT_is (t : ByteArray) (hs : t.size ≤ maxLen) :
    ∃ (r : ByteArray) (b : Bool), TAns t r b ∧ ∀ w, Calls Try.prog 16 #[.string t] w fun e w' => e = .returned (.tuple #[.string r, .bool b]) ∧ w' = w := by
  rcases temp_byte t with ⟨⟨h1, b0, b1⟩, h3⟩ | ⟨h1, h3⟩
  · have hz : ¬ (t.size : Int) < 2 := by omega
    have hz1 : (2 : Int) ≤ (t.size : Int) := by omega
    have hc0 : ((t[0].toNat : Int) != 42) = false := by rw [b0]; rfl
    have hc1 : ((t[1].toNat : Int) != 64) = false := by rw [b1]; rfl
    have HT := hid (fun w => rtemp_any (t.extract 2 t.size) w (ext_size t 2 t.size hs))
    cases hB : tempB (t.extract 2 t.size).data.toList with
    | true =>
      rw [hB, if_pos rfl] at h3
      rw [hB] at HT
      refine ⟨t.extract 2 t.size, true, Or.inl ⟨h3, rfl⟩, fun w => ?_⟩
      clear h3
      go_enter Try.func16, Try.ntmps16
      go_wp2_with fail
      refine (HT.out _).mono ?_
      rintro e w2 ⟨rfl, rfl⟩
      go_wp2_with fail
      go_ret2
      exact ⟨rfl, rfl⟩
    | false =>
      rw [hB, if_neg (by simp)] at h3
      rw [hB] at HT
      refine ⟨⟨#[]⟩, false, Or.inr ⟨h3, rfl⟩, fun w => ?_⟩
      clear h3
      go_enter Try.func16, Try.ntmps16
      go_wp2_with fail
      refine (HT.out _).mono ?_
      rintro e w2 ⟨rfl, rfl⟩
      go_wp2_with fail
      go_ret2
      exact ⟨rfl, rfl⟩
  · refine ⟨⟨#[]⟩, false, Or.inr ⟨h3, rfl⟩, fun w => ?_⟩
    clear h3
    by_cases h2 : 1 < t.size
    · have hz : ¬ (t.size : Int) < 2 := by omega
      have hz0 : (0 : Int) < (t.size : Int) := by omega
      have hz1 : (1 : Int) < (t.size : Int) := by omega
      by_cases b0 : t[0] = 42
      · have hc0 : ((t[0].toNat : Int) != 42) = false := by rw [b0]; rfl
        have hc1 : ((t[1].toNat : Int) != 64) = true := byte_ne (h1 h2 b0)
        clear h1 b0
        go_enter Try.func16, Try.ntmps16
        go_wp2_with fail
        go_ret2
        exact ⟨rfl, rfl⟩
      · have hc0 : ((t[0].toNat : Int) != 42) = true := byte_ne b0
        clear h1 b0
        go_enter Try.func16, Try.ntmps16
        go_wp2_with fail
        go_ret2
        exact ⟨rfl, rfl⟩
    · have hz : (t.size : Int) < 2 := by omega
      clear h1
      go_enter Try.func16, Try.ntmps16
      go_wp2_with fail
      go_ret2
      exact ⟨rfl, rfl⟩

set_option maxHeartbeats 2000000 in
theorem rbound_is (v : Value) (bs : List Bd) (n : ByteArray) (w : World) (hv : KB.Is w v bs) (hl : bs.length ≤ 2000000) :
    Calls Try.prog 28 #[v, .string n] w fun e w' => e = .returned (.tuple #[.agg #[.string (keyOr (boundT bs n)).1, .string (keyOr (boundT bs n)).2], .bool (boundT bs n).isSome]) ∧ Below w.heap.size w w' := by
  obtain ⟨p, cap, rfl, hd⟩ := hv
  have HD := hid hd
  clear hd
  obtain ⟨q0, q1, q2, q3⟩ := box_two (w := w) (w2 := w.alloc (.cells #[.string ⟨#[]⟩, .string ⟨#[]⟩] 31)) (n1 := 0) (x := .string ⟨#[]⟩) (y := .string ⟨#[]⟩) (T := 31) (Below.refl _ _)
  clear q0 q1 q2 q3
  obtain ⟨W0, hW0⟩ : ∃ W0, w.alloc (.cells #[.string ⟨#[]⟩, .string ⟨#[]⟩] 31) = W0 := ⟨_, rfl⟩
  have k0 : W0.cell? ⟨w.heap.size, 0, none⟩ = some (.string ⟨#[]⟩) := by rw [← hW0, Lib.cell_of_heap (heap_alloc_new w _)]; rfl
  have k1 : W0.cell? ⟨w.heap.size, 1, none⟩ = some (.string ⟨#[]⟩) := by rw [← hW0, Lib.cell_of_heap (heap_alloc_new w _)]; rfl
  have k2 : ∀ j, W0.frozen? ⟨w.heap.size, j, none⟩ = false := fun j => by rw [← hW0]; exact Lib.frozen_of_heap (heap_alloc_new w _) _
  have HB0 : Hid (Below w.heap.size w W0) := by rw [← hW0]; exact (Below.refl _ _).alloc (Nat.le_refl _) _
  go_enter Try.func28, Try.ntmps28
  go_wp2_with fail
  try rw [hW0]
  go_loopg [6] bs.length (fun g vi wr => ∃ i : Nat, vi = .int .i64 i ∧ i ≤ bs.length ∧ bs.length - i ≤ g ∧ W0 = wr ∧ Hid (∀ j, (h : j < bs.length) → j < i → bs[j].1 ≠ n))
  case atStart => exact ⟨0, rfl, by omega, by omega, rfl, fun j _ h => by omega⟩
  case round =>
    clear hW0
    obtain ⟨i, rfl, hi, hgk, rfl, HS⟩ := hrel
    by_cases hlt : i < bs.length
    · have hltz : (i : Int) < (bs.length : Int) := by omega
      have hiz : (0 : Int) ≤ i := by omega
      obtain ⟨b, off, rfl, hat⟩ : ∃ b off, p = some ⟨b, off, none⟩ ∧ KB.At w b off bs := by
        rcases HD.out with h | h
        · subst h; simp at hlt
        · exact h
      obtain ⟨c0, c1, c2⟩ := kb_at (Kind.at_kept hat HB0.out) i hlt
      have HX : Hid (∀ x : Bd, bs[i] = x → x.1 = n → boundT bs n = some x.2) := fun x e1 e2 => by
        unfold boundT
        have : bs.find? (fun b => decide (b.1 = n)) = some bs[i] := by
          rw [List.find?_eq_some_iff_getElem]
          refine ⟨by rw [e1]; exact decide_eq_true e2, i, hlt, rfl, fun j hj => ?_⟩
          have := HS.out j (by omega) hj
          simpa using this
        rw [this, e1]; rfl
      have HN : Hid (∀ x : Bd, bs[i] = x → x.1 ≠ n → ∀ j, (h : j < bs.length) → j < i + 1 → bs[j].1 ≠ n) := fun x e1 e2 j h hj => by
        by_cases e : j = i
        · subst e; rw [e1]; exact e2
        · exact HS.out j h (by omega)
      obtain ⟨x, hx⟩ : ∃ x, bs[i] = x := ⟨_, rfl⟩
      have HXE := hid hx
      rw [hx] at c0 c1 c2
      obtain ⟨nm, ka, kb⟩ := x
      simp only at c0 c1 c2
      clear hat hx
      by_cases he : nm = n
      · have heb := seq_true he
        have HBT := hid (HX.out _ HXE.out he)
        clear he
        go_wp2_with fail
        exact bodyPost_ret (v := .tuple #[.agg #[.string ka, .string kb], .bool true]) (by simp [results, Try.results28, go_sem, k0, k1]) rfl
          ⟨by rw [HBT.out]; rfl, (HB0.out.setCell (p := ⟨w.heap.size, 0, none⟩) (Nat.le_refl _) _).setCell (p := ⟨w.heap.size, 1, none⟩) (Nat.le_refl _) _⟩
      · have heb := seq_false he
        have HNX := hid (HN.out _ HXE.out he)
        clear he
        go_wp2_with fail
        go_roundg (bs.length - (i + 1))
        case measure => omega
        exact ⟨i + 1, by go_num, by omega, by omega, rfl, HNX.out⟩
    · have hltz : ¬ (i : Int) < (bs.length : Int) := by omega
      have HBT : Hid (boundT bs n = none) := by
        show _ = _
        unfold boundT
        have : bs.find? (fun b => decide (b.1 = n)) = none := by
          rw [List.find?_eq_none]
          intro x hx
          obtain ⟨j, hj, rfl⟩ := List.mem_iff_getElem.1 hx
          simpa using HS.out j hj (by omega)
        rw [this]; rfl
      go_wp2_with fail
      exact bodyPost_ret (v := .tuple #[.agg #[.string ⟨#[]⟩, .string ⟨#[]⟩], .bool false]) (by simp [results, Try.results28, go_sem, k0, k1]) rfl
        ⟨by rw [HBT.out]; rfl, (HB0.out.setCell (p := ⟨w.heap.size, 0, none⟩) (Nat.le_refl _) _).setCell (p := ⟨w.heap.size, 1, none⟩) (Nat.le_refl _) _⟩

set_option maxHeartbeats 4000000 in
set_option maxRecDepth 100000 in
theorem rput_any (n0 : Nat) (v : Value) (l : List ByteArray) (s : ByteArray) (w : World) (h : KT.Own n0 w v l) (h0 : n0 ≤ w.heap.size) (hr : RisingR ltB l) (hl : l.length ≤ 2000000) :
    Calls Try.prog 26 #[v, .string s] w fun e w' => ∃ u, e = .returned u ∧ KT.Own n0 w' u (insR ltB s l) ∧ Below n0 w w' := by
  obtain ⟨p, cap, rfl⟩ := Kind.own_shape h
  have HO := hid h
  obtain ⟨p', cap', he, hd⟩ := Kind.own_is h
  injection he with e1 e2 e3
  subst e1 e3
  have HD := hid hd
  have HR := hid hr
  clear h hd hr
  go_enter Try.func26, Try.ntmps26
  go_wp2_with fail
  go_loopg [5, 6] l.length (fun gh s5 s6 wr => ∃ lo hi : Nat, s5 = .int .i64 lo ∧ s6 = .int .i64 hi ∧ lo ≤ hi ∧ hi ≤ l.length ∧ hi - lo ≤ gh ∧ w = wr ∧ Hid (∀ j, (h : j < l.length) → j < lo → ltB l[j] s = true) ∧ Hid (∀ j, (h : j < l.length) → hi ≤ j → ltB l[j] s = false))
  case atStart => exact ⟨0, l.length, rfl, rfl, by omega, by omega, by omega, rfl, fun j _ h => by omega, fun j h h' => by omega⟩
  case round =>
    obtain ⟨lo, hi, rfl, rfl, hle, hhi, hgh, rfl, HL, HH⟩ := hrel
    by_cases hlt : lo < hi
    · have hltz : (lo : Int) < (hi : Int) := by omega
      obtain ⟨m, hm⟩ : ∃ m, m = (lo + hi) / 2 := ⟨_, rfl⟩
      have hm1 : lo ≤ m := by omega
      have hm2 : m < hi := by omega
      have hmz : ((lo : Int) + (hi : Int)) / 2 = (m : Int) := by omega
      have hmt : ((lo : Int) + (hi : Int)).tdiv 2 = (m : Int) := by rw [Int.tdiv_eq_ediv_of_nonneg (by omega)]; exact hmz
      have hml : m < l.length := by omega
      obtain ⟨b, off, rfl, hat⟩ : ∃ b off, p = some ⟨b, off, none⟩ ∧ KT.At w b off l := by
        rcases HD.out with h | h
        · rw [h] at hml; simp at hml
        · exact h
      have c0 := kt_at.1 hat m hml
      have im1 : (0 : Int) ≤ (m : Int) := by omega
      have im2 : (m : Int) < (l.length : Int) := by omega
      have HLO : Hid (ltB l[m] s = true → ∀ j, (h : j < l.length) → j < m + 1 → ltB l[j] s = true) := fun e j h hj => rising_low totB HR.out hml e j (by omega)
      have HHI : Hid (ltB l[m] s = false → ∀ j, (h : j < l.length) → m ≤ j → ltB l[j] s = false) := fun e j h hj => rising_high totB HR.out hml e j hj h
      obtain ⟨y, hy⟩ : ∃ y, l[m] = y := ⟨_, rfl⟩
      rw [hy] at c0 HLO HHI
      clear hat hy hm
      cases hc : ltB y s with
      | true =>
        have hcs := sless_of hc
        have HLX := hid (HLO.out hc)
        clear hc
        go_wp2_with fail
        go_roundg (hi - (m + 1))
        case measure => omega
        exact ⟨m + 1, hi, by go_num, rfl, by omega, by omega, Nat.le_refl _, rfl, HLX.out, HH.out⟩
      | false =>
        have hcs := sless_of hc
        have HHX := hid (HHI.out hc)
        clear hc
        go_wp2_with fail
        go_roundg (m - lo)
        case measure => omega
        exact ⟨lo, m, rfl, rfl, by omega, by omega, Nat.le_refl _, rfl, HL.out, HHX.out⟩
    · have hltz : ¬ (lo : Int) < (hi : Int) := by omega
      have hlh : lo = hi := by omega
      subst hlh
      by_cases hin : lo < l.length
      · have hinz : (lo : Int) < (l.length : Int) := by omega
        have hiz : (0 : Int) ≤ (lo : Int) := by omega
        obtain ⟨b, off, rfl, hat⟩ : ∃ b off, p = some ⟨b, off, none⟩ ∧ KT.At w b off l := by
          rcases HD.out with h | h
          · rw [h] at hin; simp at hin
          · exact h
        have c0 := kt_at.1 hat lo hin
        by_cases hxy : l[lo] = s
        · have HT := hid (put_there totB HR.out hin hxy)
          rw [hxy] at c0
          have heb := seq_true (rfl : s = s)
          clear hat hxy
          go_wp2_with fail
          go_ret
          refine ⟨_, rfl, ?_, Below.refl _ _⟩
          rw [HT.out]
          exact HO.out
        · have HNEW := hid (put_new totB (x := s) (l := l) (p := lo) (by omega) (fun j h h' => HL.out j h' h) (fun h => HH.out lo h (Nat.le_refl _)) (fun _ => hxy))
          have heb := seq_false hxy
          obtain ⟨y, hy⟩ : ∃ y, l[lo] = y := ⟨_, rfl⟩
          rw [hy] at c0 heb
          clear hat hxy hy
          obtain ⟨i0, hi0, hz0, hz1, hz2⟩ := info_parts Try.infoStr
          have HI := hid hi0
          clear hi0
          go_wp2_with (at_builtin; refine wpList_append_own _ rfl _ _ 35 rfl n0 9 i0 (.string ⟨#[]⟩) 1 16 Try.underlying35 HI.out hz0 hz1 hz2 rfl (by decide) _ _ _ rfl (World.ownsRow.alloc HO.out _) _ 1 1 [.string ⟨#[]⟩] rfl rfl (fun j u hj => KT.newsN w ⟨#[]⟩ _ rfl j u hj) (by intro u hu; simp at hu; subst hu; rfl) (by unfold maxLen; omega) (by omega) (by simp; omega) ?_; intro v4 w4 hown4 hg4 hnil4; have HB4 : Hid (Below n0 w w4) := ((Below.refl n0 w).alloc h0 _).grown hg4 (by simp; omega) (fun k hk => (World.ownsRow.lt HO.out k hk).1); have HO4 : Hid (KT.Own n0 w4 v4 (l ++ [⟨#[]⟩])) := Kind.own_snoc (K := KT) (d := l) (x := ⟨#[]⟩) hown4 rfl (by rw [kt_cells]; rfl); clear hown4 hg4 hnil4; obtain ⟨p4, c4, rfl⟩ := Kind.own_shape HO4.out; obtain ⟨g4, hp4, hn4, _, _, _⟩ := Kind.own_form HO4.out (by simp); subst hp4)
          go_loopg [8] (l.length + 1) (fun gh s8 wr2 => ∃ (k : Nat) (y : ByteArray), s8 = .int .i64 k ∧ lo ≤ k ∧ k ≤ l.length ∧ k - lo ≤ gh ∧ Hid (KT.Own n0 wr2 (.slice (some ⟨g4, 0, none⟩) (l.length + 1) c4) (l.take k ++ y :: l.drop k)) ∧ Hid (Below n0 w wr2))
          case atStart =>
            refine ⟨l.length, ⟨#[]⟩, by go_num, by omega, by omega, by omega, ?_, HB4.out⟩
            have e : l.take l.length ++ ⟨#[]⟩ :: l.drop l.length = l ++ [⟨#[]⟩] := by simp
            show KT.Own _ _ _ _
            rw [e]
            simpa using HO4.out
          case round =>
            clear HO4 HB4
            obtain ⟨k, y, rfl, hk1, hk2, hgk, HOK, HBK⟩ := hrel
            have hlen : (l.take k ++ y :: l.drop k).length = l.length + 1 := by simp; omega
            by_cases hgt : lo < k
            · have hgz : (lo : Int) < (k : Int) := by omega
              have e0 : (l.take k ++ y :: l.drop k)[k - 1]'(by omega) = l[k - 1]'(by omega) := by
                rw [List.getElem_append_left (by rw [List.length_take]; omega)]
                simp
              have a1 := kt_at.1 (Kind.own_at HOK.out) (k - 1) (by omega)
              have a2 := kt_at.1 (Kind.own_at HOK.out) k (by omega)
              rw [e0] at a1
              rw [Nat.zero_add] at a1 a2
              have f2 := Kind.own_free HOK.out k
              obtain ⟨z, hz⟩ : ∃ z, l[k - 1]'(by omega) = z := ⟨_, rfl⟩
              obtain ⟨old, hold⟩ : ∃ old, (l.take k ++ y :: l.drop k)[k]'(by omega) = old := ⟨_, rfl⟩
              rw [hz] at a1
              rw [hold] at a2
              have HP : Hid (KT.Own n0 (wr.setCell ⟨g4, k, none⟩ (.string z)) (.slice (some ⟨g4, 0, none⟩) (l.length + 1) c4) (l.take (k - 1) ++ z :: l.drop (k - 1))) := by
                have h1 := Kind.own_put1 (K := KT) rfl HOK.out hlen k (by omega) z (.string z) rfl
                have h2 := shift_step l y lo k hgt hk2
                rw [hz] at h2
                rw [h2] at h1
                exact h1
              have i1 : (0 : Int) ≤ (k : Int) - 1 := by omega
              have i2 : (k : Int) - 1 < ((l.length + 1 : Nat) : Int) := by omega
              have i3 : (k : Int) < ((l.length + 1 : Nat) : Int) := by omega
              have i4 : (0 : Int) ≤ (k : Int) := by omega
              have i5 : ((k : Int) - 1).toNat = k - 1 := by omega
              clear e0 hz hold hlen
              go_wp2_with fail
              go_roundg (k - 1 - lo)
              case measure => omega
              refine ⟨k - 1, z, by go_num, by omega, by omega, Nat.le_refl _, HP.out, HBK.out.setCell (p := ⟨g4, k, none⟩) hn4 _⟩
            · have hgz : ¬ (lo : Int) < (k : Int) := by omega
              have hke : k = lo := by omega
              subst hke
              have a2 := kt_at.1 (Kind.own_at HOK.out) k (by omega)
              rw [Nat.zero_add] at a2
              have f2 := Kind.own_free HOK.out k
              obtain ⟨old, hold⟩ : ∃ old, (l.take k ++ y :: l.drop k)[k]'(by omega) = old := ⟨_, rfl⟩
              rw [hold] at a2
              have HP : Hid (KT.Own n0 (wr.setCell ⟨g4, k, none⟩ (.string s)) (.slice (some ⟨g4, 0, none⟩) (l.length + 1) c4) (insR ltB s l)) := by
                have h1 := Kind.own_put1 (K := KT) rfl HOK.out hlen k (by omega) s (.string s) rfl
                have h2 : (l.take k ++ y :: l.drop k).set k s = l.take k ++ s :: l.drop k := by
                  rw [List.set_append_right _ _ (by rw [List.length_take]; omega)]
                  have : k - (l.take k).length = 0 := by rw [List.length_take]; omega
                  rw [this]; rfl
                rw [h2, ← HNEW.out] at h1
                exact h1
              have i3 : (k : Int) < ((l.length + 1 : Nat) : Int) := by omega
              have i4 : (0 : Int) ≤ (k : Int) := by omega
              clear hold hlen
              go_wp2_with fail
              go_ret
              exact ⟨_, rfl, HP.out, HBK.out.setCell (p := ⟨g4, k, none⟩) hn4 _⟩
      · have hinz : ¬ (lo : Int) < (l.length : Int) := by omega
        have HNEW := hid (put_new totB (x := s) (l := l) (p := lo) (by omega) (fun j h h' => HL.out j h' h) (fun h => absurd h hin) (fun h => absurd h hin))
        obtain ⟨i0, hi0, hz0, hz1, hz2⟩ := info_parts Try.infoStr
        have HI := hid hi0
        clear hi0
        go_wp2_with (at_builtin; refine wpList_append_own _ rfl _ _ 35 rfl n0 9 i0 (.string ⟨#[]⟩) 1 16 Try.underlying35 HI.out hz0 hz1 hz2 rfl (by decide) _ _ _ rfl (World.ownsRow.alloc HO.out _) _ 1 1 [.string ⟨#[]⟩] rfl rfl (fun j u hj => KT.newsN w ⟨#[]⟩ _ rfl j u hj) (by intro u hu; simp at hu; subst hu; rfl) (by unfold maxLen; omega) (by omega) (by simp; omega) ?_; intro v4 w4 hown4 hg4 hnil4; have HB4 : Hid (Below n0 w w4) := ((Below.refl n0 w).alloc h0 _).grown hg4 (by simp; omega) (fun k hk => (World.ownsRow.lt HO.out k hk).1); have HO4 : Hid (KT.Own n0 w4 v4 (l ++ [⟨#[]⟩])) := Kind.own_snoc (K := KT) (d := l) (x := ⟨#[]⟩) hown4 rfl (by rw [kt_cells]; rfl); clear hown4 hg4 hnil4; obtain ⟨p4, c4, rfl⟩ := Kind.own_shape HO4.out; obtain ⟨g4, hp4, hn4, _, _, _⟩ := Kind.own_form HO4.out (by simp); subst hp4)
        go_loopg [8] (l.length + 1) (fun gh s8 wr2 => ∃ (k : Nat) (y : ByteArray), s8 = .int .i64 k ∧ lo ≤ k ∧ k ≤ l.length ∧ k - lo ≤ gh ∧ Hid (KT.Own n0 wr2 (.slice (some ⟨g4, 0, none⟩) (l.length + 1) c4) (l.take k ++ y :: l.drop k)) ∧ Hid (Below n0 w wr2))
        case atStart =>
          refine ⟨l.length, ⟨#[]⟩, by go_num, by omega, by omega, by omega, ?_, HB4.out⟩
          have e : l.take l.length ++ ⟨#[]⟩ :: l.drop l.length = l ++ [⟨#[]⟩] := by simp
          show KT.Own _ _ _ _
          rw [e]
          simpa using HO4.out
        case round =>
          clear HO4 HB4
          obtain ⟨k, y, rfl, hk1, hk2, hgk, HOK, HBK⟩ := hrel
          have hlen : (l.take k ++ y :: l.drop k).length = l.length + 1 := by simp; omega
          by_cases hgt : lo < k
          · exact absurd hgt (by omega)
          · have hgz : ¬ (lo : Int) < (k : Int) := by omega
            have hke : k = lo := by omega
            subst hke
            have a2 := kt_at.1 (Kind.own_at HOK.out) k (by omega)
            rw [Nat.zero_add] at a2
            have f2 := Kind.own_free HOK.out k
            obtain ⟨old, hold⟩ : ∃ old, (l.take k ++ y :: l.drop k)[k]'(by omega) = old := ⟨_, rfl⟩
            rw [hold] at a2
            have HP : Hid (KT.Own n0 (wr.setCell ⟨g4, k, none⟩ (.string s)) (.slice (some ⟨g4, 0, none⟩) (l.length + 1) c4) (insR ltB s l)) := by
              have h1 := Kind.own_put1 (K := KT) rfl HOK.out hlen k (by omega) s (.string s) rfl
              have h2 : (l.take k ++ y :: l.drop k).set k s = l.take k ++ s :: l.drop k := by
                rw [List.set_append_right _ _ (by rw [List.length_take]; omega)]
                have : k - (l.take k).length = 0 := by rw [List.length_take]; omega
                rw [this]; rfl
              rw [h2, ← HNEW.out] at h1
              exact h1
            have i3 : (k : Int) < ((l.length + 1 : Nat) : Int) := by omega
            have i4 : (0 : Int) ≤ (k : Int) := by omega
            clear hold hlen
            go_wp2_with fail
            go_ret
            exact ⟨_, rfl, HP.out, HBK.out.setCell (p := ⟨g4, k, none⟩) hn4 _⟩

end Go.Proofs.Ytinmagodckkedaa

/-
  The contract of Fields of the reference: a copy.
-/
namespace Go.Proofs.Ytinmagodckkedaa
open Go.RowKit

set_option maxHeartbeats 4000000 in
set_option maxRecDepth 100000 in
theorem fields_any (v : Value) (d : List Fx) (w : World) (hv : IsXs w v d) (hf : FitX d) (hc : CopyX d) :
    Calls Try.prog 27 #[v] w fun e w' => ∃ u o, e = .returned u ∧ OwnJ w.heap.size w' u o ∧ o.map Fx.fld = d.map Fx.fld ∧ Below w.heap.size w w' := by
  obtain ⟨j0, hj0, hy0, hy1, hy2⟩ := info_parts Try.infoFld
  obtain ⟨i0, hi0, hz0, hz1, hz2⟩ := info_parts Try.infoStr
  have HJ := hid hj0
  have HI := hid hi0
  obtain ⟨p, cap, rfl, hd, ht⟩ := hv
  have HD := hid hd
  have HX := hid ht
  have hl := hf.1
  unfold maxLen at hl
  have h40 := hc.1
  have H16 := hid hc.2
  clear hd ht hf hj0 hi0 hc
  go_enter Try.func27, Try.ntmps27
  go_wp2_with fail
  go_loopg [3, 4] d.length (fun g vs vi wr => ∃ (i : Nat) (o : List Fx), vi = .int .i64 i ∧ i ≤ d.length ∧ d.length - i ≤ g ∧ Hid (o.map Fx.fld = (d.take i).map Fx.fld) ∧ Hid (OwnJ w.heap.size wr vs o) ∧ Hid (Below w.heap.size w wr))
  case atStart => exact ⟨0, [], rfl, by omega, by omega, by show _ = _; simp, own_noneX _ _, Below.refl _ _⟩
  case round =>
    obtain ⟨i, o, rfl, hi, hgk, HM, HO, HB⟩ := hrel
    have hol : o.length = i := by have := congrArg List.length HM.out; simp at this; omega
    by_cases hlt : i < d.length
    · have hltz : (i : Int) < (d.length : Int) := by omega
      have hiz : (0 : Int) ≤ i := by omega
      obtain ⟨b, off, rfl, hxs⟩ : ∃ b off, p = some ⟨b, off, none⟩ ∧ XsAt w b off d := by
        rcases HD.out with h | h
        · subst h; simp at hlt
        · exact h
      have hxi : (d[i]).at w := HX.out _ (List.getElem_mem hlt)
      have hx16 := H16.out _ (List.getElem_mem hlt)
      have hcl := hxs i hlt
      have hnx : (d.take (i + 1)).map Fx.fld = (d.take i).map Fx.fld ++ [(d[i]).fld] := by
        rw [List.take_succ_eq_append_getElem hlt, List.map_append]; simp
      obtain ⟨x, hx⟩ : ∃ x, d[i] = x := ⟨_, rfl⟩
      rw [hx] at hxi hx16 hcl hnx
      obtain ⟨nm, p5, c5, ts⟩ := x
      simp only [Fx.at, Fx.sl, Fx.fld] at hxi hx16 hcl hnx
      have HNX := hid hnx
      have HXI := hid hxi
      have HCL : Hid (∀ W, Below w.heap.size w W → W.cell? ⟨b, off + i * 2, none⟩ = some (.string nm) ∧ W.cell? ⟨b, off + i * 2 + 1, none⟩ = some (.slice p5 ts.length c5)) := fun W hW =>
        ⟨(hW.cell (p := ⟨b, off + i * 2, none⟩) (cell_block hcl.1)).trans hcl.1, (hW.cell (p := ⟨b, off + i * 2 + 1, none⟩) (cell_block hcl.2)).trans hcl.2⟩
      have HOB : Hid (∀ y ∈ o, ∀ k, y.sl.ownBlock = some k → k < wr.heap.size) := fun y hy k hk => (World.ownsRow.lt (show wr.ownsRow w.heap.size 9 1 y.sl y.txt.length (y.txt.map Value.string) from HO.out.1.2 y hy) k hk).2
      have hsz := HB.out.size
      obtain ⟨M, hM⟩ : ∃ M, wr.heap.size = M := ⟨_, rfl⟩
      obtain ⟨W0, hW0⟩ : ∃ W0, wr = W0 := ⟨_, rfl⟩
      have HBW : Hid (∀ W, Below M W0 W → Below w.heap.size w W ∧ OwnJ w.heap.size W u3 o) := fun W hW => by
        rw [← hW0, ← hM] at hW
        exact ⟨bel_then HB.out hsz hW, HO.out.on hW⟩
      have HM0 : Hid (Below M W0 W0) := Below.refl _ _
      have HMS : Hid (M = W0.heap.size) := by show _ = _; rw [← hW0]; exact hM.symm
      rw [hM] at HOB hsz
      have HE0 : Hid (OwnT M W0 (.slice none 0 0) (ts.take 0)) := by show OwnT _ _ _ _; rw [List.take_zero]; exact World.ownsRow_nil _ _ _ _
      clear hxs hxi hx hcl hnx HO HB
      go_wp2_with fail
      go_loopg [5, 6] ts.length (fun g vs vj wr2 => ∃ j : Nat, vj = .int .i64 j ∧ j ≤ ts.length ∧ ts.length - j ≤ g ∧ Hid (OwnT M wr2 vs (ts.take j)) ∧ Hid (Below M W0 wr2))
      case atStart => exact ⟨0, rfl, by omega, by omega, HE0.out, HM0.out⟩
      case round =>
        clear HE0 hW0 hM
        obtain ⟨j, rfl, hj, hgj, HT, HBJ⟩ := hrel
        obtain ⟨hbw, hoj⟩ := HBW.out wr HBJ.out
        obtain ⟨e0, e1⟩ := HCL.out wr hbw
        have hszM : M ≤ wr.heap.size := by have := HBJ.out.size; have h2 := HMS.out; omega
        have htl : (ts.take j).length = j := by rw [List.length_take]; omega
        by_cases hlj : j < ts.length
        · have hljz : (j : Int) < (ts.length : Int) := by omega
          have hjz : (0 : Int) ≤ j := by omega
          obtain ⟨b2, o2, rfl, ht2⟩ : ∃ b o, p5 = some ⟨b, o, none⟩ ∧ ∀ i, (h : i < ts.length) → w.cell? ⟨b, o + i, none⟩ = some (.string ts[i]) := by
            rcases HXI.out with h | h
            · rw [h] at hlj; simp at hlj
            · exact h
          have t0 : wr.cell? ⟨b2, o2 + j, none⟩ = some (.string ts[j]) := (hbw.cell (p := ⟨b2, o2 + j, none⟩) (cell_block (ht2 j hlj))).trans (ht2 j hlj)
          have hst : ts.take (j + 1) = ts.take j ++ [ts[j]] := List.take_succ_eq_append_getElem hlj
          obtain ⟨t, hte⟩ : ∃ t, ts[j] = t := ⟨_, rfl⟩
          rw [hte] at t0 hst
          have HST := hid hst
          obtain ⟨acc, hacc⟩ : ∃ acc, ts.take j = acc := ⟨_, rfl⟩
          rw [hacc] at HT HST htl
          clear ht2 hst hte hacc hoj hbw
          go_wp2_with (at_builtin; refine wpList_append_own _ rfl _ _ 35 rfl M 9 i0 (.string ⟨#[]⟩) 1 16 Try.underlying35 HI.out hz0 hz1 hz2 rfl (by decide) _ _ _ rfl (World.ownsRow.alloc HT.out _) _ 1 1 [.string t] rfl rfl (fun j u hj => KT.news wr t j u hj) (by intro u hu; simp at hu; subst hu; rfl) (by unfold maxLen; omega) (by omega) (by simp; omega) ?_; intro v4 w4 hown4 hg4 hnil4; have HO4 := hid hown4; have HG4 := hid hg4; clear hown4 hg4 hnil4)
          go_roundg (ts.length - (j + 1))
          case measure => omega
          refine ⟨j + 1, by go_num, by omega, by omega, ?_, ?_⟩
          · rw [HST.out]
            show OwnT _ _ _ _
            unfold OwnT
            rw [List.length_append, List.map_append]
            exact HO4.out
          · exact (HBJ.out.alloc hszM _).grown HG4.out (by simp; omega) (fun k hk => (World.ownsRow.lt HT.out k hk).1)
        · have hljz : ¬ (j : Int) < (ts.length : Int) := by omega
          have hjt : ts.take j = ts := List.take_of_length_le (by omega)
          rw [hjt] at HT
          obtain ⟨p6, c6, hsl⟩ := own_slice HT.out
          subst hsl
          have HOJ := hid hoj
          have HBWW := hid hbw
          have hbs := hbw.size
          clear hjt htl hoj hbw
          go_wp2_with (at_builtin; refine wpList_append_own _ rfl _ _ 22 rfl w.heap.size 38 j0 (.agg #[.string ⟨#[]⟩, .slice none 0 0]) 2 40 Try.underlying22 HJ.out hy0 hy1 hy2 rfl (by decide) _ _ _ rfl (World.ownsRow.alloc HOJ.out.1.1 _) ⟨wr.heap.size, 0, none⟩ 1 1 (cellsX [⟨nm, p6, c6, ts⟩]) rfl rfl (news_x wr ⟨nm, p6, c6, ts⟩) (cellsX_one _) (by unfold maxLen; omega) (by omega) (by simp; omega) ?_; intro v4 w4 hown4 hg4 hnil4; have HO4 := hid hown4; have HG4 := hid hg4; clear hown4 hg4 hnil4)
          go_roundg (d.length - (i + 1))
          case measure => omega
          refine ⟨i + 1, o ++ [⟨nm, p6, c6, ts⟩], by go_num, by omega, by omega, ?_, ?_, ?_⟩
          · show _ = _
            rw [List.map_append, HM.out, HNX.out]; rfl
          · have hal := (Below.refl wr.heap.size wr).alloc (Nat.le_refl _) (.cells #[.string nm, .slice p6 ts.length c6] 38)
            exact joined_put (M := M) (HOJ.out.on hal) (show OwnT M _ (Fx.sl ⟨nm, p6, c6, ts⟩) ts from OwnT.on HT.out hal) (fun y hy k hk => HOB.out y hy k hk) hsz HO4.out HG4.out
          · exact (HBWW.out.alloc hbs _).grown HG4.out (by simp; omega) (fun k hk => (World.ownsRow.lt HOJ.out.1.1 k hk).1)
    · have hltz : ¬ (i : Int) < (d.length : Int) := by omega
      have hti : d.take i = d := List.take_of_length_le (by omega)
      rw [hti] at HM
      go_wp2_with fail
      go_ret
      exact ⟨_, rfl, o, HO.out, HM.out, HB.out⟩

end Go.Proofs.Ytinmagodckkedaa

/-
  The contract of Rename of the reference; a value of one's own, changed text by text.
-/
namespace Go.Proofs.Ytinmagodckkedaa
open Go.RowKit

/-- The texts of a field, when j of them have been changed. -/
def midT (g : ByteArray → ByteArray) (ts : List ByteArray) (j : Nat) : List ByteArray := (ts.take j).map g ++ ts.drop j
theorem midT_len (g : ByteArray → ByteArray) (ts : List ByteArray) (j : Nat) (h : j ≤ ts.length) : (midT g ts j).length = ts.length := by
  unfold midT; simp; omega
theorem midT_zero (g : ByteArray → ByteArray) (ts : List ByteArray) : midT g ts 0 = ts := by simp [midT]
theorem midT_all (g : ByteArray → ByteArray) (ts : List ByteArray) : midT g ts ts.length = ts.map g := by simp [midT]
theorem midT_get (g : ByteArray → ByteArray) (ts : List ByteArray) (j : Nat) (h : j < ts.length) : (midT g ts j)[j]'(by rw [midT_len g ts j (by omega)]; exact h) = ts[j] := by
  unfold midT
  rw [List.getElem_append_right (by simp; omega)]
  simp [List.length_take, Nat.min_eq_left (Nat.le_of_lt h)]
theorem midT_step (g : ByteArray → ByteArray) (ts : List ByteArray) (j : Nat) (h : j < ts.length) : (midT g ts j).set j (g ts[j]) = midT g ts (j + 1) := by
  unfold midT
  have hl : ((ts.take j).map g).length = j := by simp; omega
  rw [List.set_append_right _ _ (by omega), hl, Nat.sub_self, List.drop_eq_getElem_cons h, List.set_cons_zero, List.take_succ_eq_append_getElem h, List.map_append, List.append_assoc]
  rfl
theorem midT_same (g : ByteArray → ByteArray) (ts : List ByteArray) (j : Nat) (h : j < ts.length) (he : g ts[j] = ts[j]) : midT g ts j = midT g ts (j + 1) := by
  rw [← midT_step g ts j h, he]
  have := midT_get g ts j h
  conv => rhs; rw [← this]
  rw [List.set_getElem_self]

/-- A value of one's own, in which the fields ahead of i are changed. -/
structure RO (w1 : World) (u : Value) (fs : List Fld) (g : ByteArray → ByteArray) (i : Nat) (o : List Fx) (W : World) : Prop where
  len : o.length = fs.length
  st : XSt w1.heap.size w1.heap.size w1.heap.size w1 u o W
  low : ∀ k, (h : k < o.length) → (h' : k < fs.length) → k < i → (o[k]).fld = ((fs[k]).1, (fs[k]).2.map g)
  high : ∀ k, (h : k < o.length) → (h' : k < fs.length) → i < k → (o[k]).fld = fs[k]

/-- .. and in the field i the texts ahead of j. -/
structure RI (w1 : World) (u : Value) (fs : List Fld) (g : ByteArray → ByteArray) (i j : Nat) (o : List Fx) (W : World) : Prop where
  ro : RO w1 u fs g i o W
  here : ∀ (h : i < o.length) (h' : i < fs.length), (o[i]).fld = ((fs[i]).1, midT g (fs[i]).2 j)

theorem RO.on {w1 : World} {u : Value} {fs : List Fld} {g : ByteArray → ByteArray} {i : Nat} {o : List Fx} {W W' : World} (h : RO w1 u fs g i o W) (hb : Below W.heap.size W W') : RO w1 u fs g i o W' := ⟨h.len, h.st.on hb, h.low, h.high⟩
theorem RI.on {w1 : World} {u : Value} {fs : List Fld} {g : ByteArray → ByteArray} {i j : Nat} {o : List Fx} {W W' : World} (h : RI w1 u fs g i j o W) (hb : Below W.heap.size W W') : RI w1 u fs g i j o W' := ⟨h.ro.on hb, h.here⟩
theorem RO.below {w1 : World} {u : Value} {fs : List Fld} {g : ByteArray → ByteArray} {i : Nat} {o : List Fx} {W : World} (h : RO w1 u fs g i o W) : Below w1.heap.size w1 W := h.st.below rfl

theorem ri_start {w1 W : World} {u : Value} {fs : List Fld} {g : ByteArray → ByteArray} {o : List Fx} (ho : OwnJ w1.heap.size W u o) (hm : o.map Fx.fld = fs) (hb : Below w1.heap.size w1 W) : RI w1 u fs g 0 0 o W := by
  have hl : o.length = fs.length := by rw [← hm, List.length_map]
  have he : ∀ k (h : k < o.length) (h' : k < fs.length), (o[k]).fld = fs[k] := fun k h h' => by
    have : (o.map Fx.fld)[k]'(by simpa using h) = fs[k] := by simp [hm]
    simpa using this
  refine ⟨⟨hl, ⟨ho, fun k hk => Or.inr ?_, fun x hx k hk => Or.inr ?_, ⟨hb.os, hb.tape, hb.output, hb.size, fun k hk _ => hb.block k hk⟩⟩, fun k _ _ h => by omega, fun k h h' _ => he k h h'⟩, fun h h' => ?_⟩
  · exact (World.ownsRow.lt ho.1.1 k hk).1
  · exact (World.ownsRow.lt (show W.ownsRow w1.heap.size 9 1 x.sl x.txt.length (x.txt.map Value.string) from ho.1.2 x hx) k hk).1
  · rw [he 0 h h', midT_zero]

theorem RI.next {w1 : World} {u : Value} {fs : List Fld} {g : ByteArray → ByteArray} {i j : Nat} {o : List Fx} {W : World} (h : RI w1 u fs g i j o W) (hi : i < fs.length) (hj : (fs[i]).2.length ≤ j) : RI w1 u fs g (i + 1) 0 o W := by
  have hh := h.here (by rw [h.ro.len]; exact hi) hi
  refine ⟨⟨h.ro.len, h.ro.st, fun k h1 h2 hk => ?_, fun k h1 h2 hk => h.ro.high k h1 h2 (by omega)⟩, fun h1 h2 => ?_⟩
  · by_cases e : k = i
    · subst e
      rw [hh]
      have : midT g (fs[k]).2 j = (fs[k]).2.map g := by
        unfold midT
        rw [List.take_of_length_le hj, List.drop_eq_nil_of_le hj, List.append_nil]
      rw [this]
    · exact h.ro.low k h1 h2 (by omega)
  · rw [h.ro.high (i + 1) h1 h2 (by omega), midT_zero]

theorem RI.done {w1 : World} {u : Value} {fs : List Fld} {g : ByteArray → ByteArray} {i j : Nat} {o : List Fx} {W : World} (h : RI w1 u fs g i j o W) (hi : fs.length ≤ i) : o.map Fx.fld = mapT g fs := by
  apply List.ext_getElem
  · simp [mapT, h.ro.len]
  · intro k hk hk'
    have hk1 : k < o.length := by simpa using hk
    have hk2 : k < fs.length := by rw [← h.ro.len]; exact hk1
    rw [List.getElem_map, h.ro.low k hk1 hk2 (by omega)]
    simp [mapT]

/-- Where the texts of the field i lie. -/
theorem RI.cells {w1 : World} {gr n c : Nat} {fs : List Fld} {g : ByteArray → ByteArray} {i j : Nat} {o : List Fx} {W : World} (h : RI w1 (.slice (some ⟨gr, 0, none⟩) n c) fs g i j o W) (hn : n = fs.length) (hi : i < fs.length) {nm : ByteArray} {ts : List ByteArray} (he : fs[i] = (nm, ts)) (hj : j ≤ ts.length) :
    ∃ p cp, W.cell? ⟨gr, i * 2 + 1, none⟩ = some (.slice p ts.length cp) ∧ ∀ hj' : j < ts.length, ∃ T, p = some ⟨T, 0, none⟩ ∧ W.cell? ⟨T, j, none⟩ = some (.string ts[j]) ∧ (∀ W', Below W.heap.size W W' → W'.frozen? ⟨T, j, none⟩ = false) ∧ w1.heap.size ≤ T ∧ T ≠ gr ∧
      ∀ W', Below W.heap.size W W' → RI w1 (.slice (some ⟨gr, 0, none⟩) n c) fs g i (j + 1) (o.set i ⟨nm, p, cp, midT g ts (j + 1)⟩) (W'.setCell ⟨T, j, none⟩ (.string (g ts[j]))) := by
  have hio : i < o.length := by rw [h.ro.len]; exact hi
  have hh := h.here hio hi
  rw [he] at hh
  simp only at hh
  obtain ⟨c0, c1⟩ := cellsX_get o i hio
  have hrow := h.ro.st.own.1.1
  have hlen : o.length = n := by rw [hn]; exact h.ro.len
  rw [hlen] at hrow
  have hcell : W.cell? ⟨gr, i * 2 + 1, none⟩ = some (o[i]).sl := by rw [World.ownsRow.cellAt hrow (i * 2 + 1) (by omega)]; exact c1
  have hml := midT_len g ts j hj
  have htx := h.ro.st.own.1.2 _ (List.getElem_mem hio)
  obtain ⟨x, hx⟩ : ∃ x, o[i] = x := ⟨_, rfl⟩
  obtain ⟨nm', p, cp, txt⟩ := x
  rw [hx] at hh hcell htx
  simp only [Fx.fld, Prod.mk.injEq] at hh
  obtain ⟨rfl, rfl⟩ := hh
  simp only [Fx.sl] at hcell
  rw [hml] at hcell
  refine ⟨p, cp, hcell, fun hj' => ?_⟩
  have htl : 0 < (midT g ts j).length := by omega
  have hown : W.ownsRow w1.heap.size 9 1 (.slice p (midT g ts j).length cp) (midT g ts j).length ((midT g ts j).map Value.string) := htx
  obtain ⟨T, hp, hge, _, _, _⟩ := Kind.own_form (K := KT) (kt_own.2 hown) htl
  subst hp
  refine ⟨T, rfl, ?_, fun W' hW' => ?_, hge, ?_, fun W' hW' => ?_⟩
  · have := World.ownsRow.cellAt hown j (by omega)
    rw [this]
    rw [List.getElem?_map, List.getElem?_eq_getElem (by omega), midT_get g ts j hj']
    rfl
  · exact World.ownsRow.frozenAt (own_on hown hW') j
  · intro e
    subst e
    obtain ⟨cs, hcs⟩ := own_type hown rfl
    obtain ⟨cs', hcs'⟩ := own_type hrow rfl
    rw [hcs] at hcs'
    injection hcs' with hcs'
    injection hcs' with _ ht
    exact absurd ht (by decide)
  · have h' := h.on hW'
    have hw := h'.ro.st.wipe hio (j := j) (gt := T) (by rw [hx]) (g ts[j])
    rw [hx] at hw
    simp only [midT_step g ts j hj'] at hw
    refine ⟨⟨by rw [List.length_set]; exact h.ro.len, hw, fun k h1 h2 hk => ?_, fun k h1 h2 hk => ?_⟩, fun h1 h2 => ?_⟩
    · rw [List.getElem_set, if_neg (by omega)]
      exact h.ro.low k (by simpa using h1) h2 hk
    · rw [List.getElem_set, if_neg (by omega)]
      exact h.ro.high k (by simpa using h1) h2 hk
    · rw [List.getElem_set, if_pos rfl, he]
      rfl

theorem RI.skip {w1 : World} {u : Value} {fs : List Fld} {g : ByteArray → ByteArray} {i j : Nat} {o : List Fx} {W : World} (h : RI w1 u fs g i j o W) (hi : i < fs.length) {nm : ByteArray} {ts : List ByteArray} (he : fs[i] = (nm, ts)) (hj : j < ts.length) (hg : g ts[j] = ts[j]) : RI w1 u fs g i (j + 1) o W :=
  ⟨h.ro, fun h1 h2 => by rw [h.here h1 h2, he]; simp only; rw [midT_same g ts j hj hg]⟩

end Go.Proofs.Ytinmagodckkedaa
