/-
  Texts of this claim, one behind the other: Edl Hp1 App Hc0 Hpl Tak Tkm Hp3 Hp4 Hp5 Hp6 Hw0 Cb0 Re1 Re2 Hw1 Hw2 Hw3.
-/
import Derived.Test.YtelcongbnmfegaaGreatDoorPc
import Derived.BigQuiet
import Derived.Test.YtelcongbnmfegaaGreatDoorPb
import Derived.Test.YtelcongbnmfegaaGreatDoorPa
import Derived.Laws.CopyRow
import Derived.Laws.IdiomCopy
import Derived.Lib.Overlaps
import Derived.Lib.AppendZerosOnto
import Derived.Deep.RegionHeld3
import Derived.Deep.RegionLaw
import Derived.Laws.CopyOwn
import Derived.Maps.AppendAt
import Derived.Deep.AppendLies
import Derived.Shelf.SlicesE.DeleteFunc
import Derived.Shelf.Slices.Turned
import Derived.Lib.OwnBridge
/-
  The plain mathematics of edits: their words and lines, there and back.
-/
namespace Go.Proofs.YtelcongbnmfegaaGreatDoor
open Go.RowKit Go.Lib

/-- The word of an edit. -/
def wordE (x : Ed) : ByteArray := x.2.1 ++ signS x.1 ++ ⟨(writeL x.2.2.data.toList).toArray⟩
/-- The line of edits. -/
def lineE (l : List Ed) : ByteArray := lineB (l.map wordE)

theorem wordE_data (x : Ed) : (wordE x).data.toList = x.2.1.data.toList ++ ((signS x.1).data.toList ++ writeL x.2.2.data.toList) := by
  unfold wordE
  simp only [data_append]
  simp

theorem lineE_first (x : Ed) : lineB [wordE x] = ⟨#[]⟩ ++ x.2.1 ++ signS x.1 ++ ⟨(writeL x.2.2.data.toList).toArray⟩ := by
  refine ba_eq ?_
  rw [lineB_data, List.map_cons, List.map_nil, Lib.join_one, wordE_data]
  simp only [data_append]
  simp

theorem lineE_next {ws : List ByteArray} (h : ws ≠ []) (x : Ed) : lineB (ws ++ [wordE x]) = lineB ws ++ ⟨#[32]⟩ ++ x.2.1 ++ signS x.1 ++ ⟨(writeL x.2.2.data.toList).toArray⟩ := by
  refine ba_eq ?_
  rw [lineB_data, List.map_append, List.map_cons, List.map_nil, join_snoc _ _ (by simpa using h)]
  simp only [data_append, lineB_data, wordE_data]
  simp

theorem sign_size (k : Int) : (signS k).size ≤ 2 ∧ 1 ≤ (signS k).size := by
  unfold signS
  repeat' split
  all_goals exact ⟨by decide, by decide⟩

theorem wordE_len {x : Ed} (h1 : namedE x = true) (h2 : shortE x = true) : (wordE x).size ≤ 418 := by
  have h3 : x.2.1.size ≤ 32 := by simpa using fieldB_len h1
  have h4 := writeL_len x.2.2.data.toList
  have h5 : x.2.2.data.toList.length = x.2.2.size := by simp
  have h6 := of_decide_eq_true h2
  have h7 := sign_size x.1
  have h8 : (⟨(writeL x.2.2.data.toList).toArray⟩ : ByteArray).size = (writeL x.2.2.data.toList).length := by show (writeL x.2.2.data.toList).toArray.size = _; simp
  unfold wordE
  rw [ByteArray.size_append, ByteArray.size_append, h8]
  omega

theorem lineE_size {ws : List ByteArray} (hn : ws.length ≤ 16) (hs : ∀ x ∈ ws, x.size ≤ 418) : (lineB ws).size ≤ 6704 := by
  have e : (lineB ws).size = (Lib.join (ws.map (·.data.toList)) [32]).length := by rw [← lineB_data]; simp
  have h1 := join_size 418 (ws.map (·.data.toList)) (fun w hw => by
    obtain ⟨x, hx, rfl⟩ := List.mem_map.1 hw
    simpa using hs x hx)
  rw [List.length_map] at h1
  have h3 : ws.length * (418 + 1) ≤ 16 * (418 + 1) := Nat.mul_le_mul_right _ hn
  omega

theorem wrap_i64E (n : Int) (h1 : -9223372036854775808 ≤ n) (h2 : n ≤ 9223372036854775807) : IntKind.i64.wrap n = n := by
  simp [IntKind.wrap, IntKind.signed, IntKind.bits]; omega

theorem wrapEqE (x : Int) : IntKind.i64.wrap x = wrap64 x := by rw [IntKind.wrap_i64]; unfold wrap64; rfl

def isK (c : UInt8) : Bool := kindN (c.toNat : Int) != 0

/-- The edit of a word, if it has one. -/
def editO (l : List UInt8) : Option Ed :=
  match l.dropWhile (fun c => !isK c) with
  | [] => none
  | c :: r =>
    if kindN (c.toNat : Int) = 4 then (if r = [] then some (4, ⟨(l.takeWhile (fun c => !isK c)).toArray⟩, ⟨#[]⟩) else none)
    else match r with
      | [] => none
      | d :: r2 => if d = 61 then (match readL r2 with
        | none => none
        | some t => some (kindN (c.toNat : Int), ⟨(l.takeWhile (fun c => !isK c)).toArray⟩, ⟨t.toArray⟩)) else none

def editsW : List (List UInt8) → Option (List Ed)
  | [] => some []
  | l :: ls => match editO l with
    | none => none
    | some x => (editsW ls).map (x :: ·)

theorem editsW_append (a b : List (List UInt8)) : editsW (a ++ b) = (editsW a).bind fun xs => (editsW b).map (xs ++ ·) := by
  induction a with
  | nil => simp [editsW]
  | cons l a ih =>
    simp only [List.cons_append, editsW, ih]
    cases editO l with
    | none => rfl
    | some x =>
      cases editsW a with
      | none => rfl
      | some xs => cases editsW b <;> rfl

theorem editsW_no {a b : List (List UInt8)} {l : List UInt8} (h : editO l = none) : editsW (a ++ l :: b) = none := by
  rw [editsW_append]
  cases editsW a with
  | none => rfl
  | some x => simp [editsW, h]

theorem editsW_snoc {a : List (List UInt8)} {l : List UInt8} {xs : List Ed} {x : Ed} (ha : editsW a = some xs) (h : editO l = some x) : editsW (a ++ [l]) = some (xs ++ [x]) := by
  rw [editsW_append, ha]
  simp [editsW, h]

theorem k_split {l : List UInt8} {k : Nat} (hk : k < l.length) (h : ∀ d ∈ l.take k, isK d = false) (h2 : isK l[k] = true) :
    l.takeWhile (fun c => !isK c) = l.take k ∧ l.dropWhile (fun c => !isK c) = l[k] :: l.drop (k + 1) := by
  have e : l = l.take k ++ l[k] :: l.drop (k + 1) := by
    conv => lhs; rw [← List.take_append_drop k l, List.drop_eq_getElem_cons hk]
  have hp : ∀ d ∈ l.take k, (!isK d) = true := fun d hd => by rw [h d hd]; rfl
  constructor
  · conv => lhs; rw [e]
    rw [List.takeWhile_append_of_pos hp, List.takeWhile_cons, h2]
    simp
  · conv => lhs; rw [e]
    rw [List.dropWhile_append_of_pos hp, List.dropWhile_cons, h2]
    simp

theorem k_none {l : List UInt8} (h : ∀ d ∈ l, isK d = false) : editO l = none := by
  have : l.dropWhile (fun c => !isK c) = [] := by
    induction l with
    | nil => rfl
    | cons c l ih =>
      rw [List.dropWhile_cons, h c (by simp)]
      simpa using ih fun d hd => h d (by simp [hd])
  unfold editO
  rw [this]

theorem kind_sign {c : UInt8} (h : isK c = true) : c = 58 ∨ c = 43 ∨ c = 45 ∨ c = 126 ∨ c = 61 := by
  unfold isK at h
  rw [bne_iff_ne] at h
  unfold kindN at h
  have key : ∀ k : UInt8, (c.toNat : Int) = (k.toNat : Int) → c = k := fun k e => UInt8.toNat_inj.1 (by omega)
  by_cases h1 : (c.toNat : Int) = 58
  · exact Or.inl (key 58 h1)
  by_cases h2 : (c.toNat : Int) = 43
  · exact Or.inr (Or.inl (key 43 h2))
  by_cases h3 : (c.toNat : Int) = 45
  · exact Or.inr (Or.inr (Or.inl (key 45 h3)))
  by_cases h4 : (c.toNat : Int) = 126
  · exact Or.inr (Or.inr (Or.inr (Or.inl (key 126 h4))))
  by_cases h5 : (c.toNat : Int) = 61
  · exact Or.inr (Or.inr (Or.inr (Or.inr (key 61 h5))))
  rw [if_neg h1, if_neg h2, if_neg h3, if_neg h4, if_neg h5] at h
  exact absurd rfl h

/-- The sign of what stands at A is whole, and nothing stands behind a "~". -/
def okW (x : ByteArray) (A : Nat) (k : Int) : Bool := decide ((signS k).size ≤ x.size - A) && decide (x.extract A (A + (signS k).size) = signS k) && (decide (k ≠ 4) || decide (x.size - A ≤ 1))

theorem ext_two (x : ByteArray) (A n : Nat) : (x.extract A (A + n)).data.toList = (x.data.toList.drop A).take n := by
  have := ext_mid x A (A + n)
  rw [this]
  congr 1
  omega

theorem edit_at {x : ByteArray} {A : Nat} (hA : A < x.size) (hno : ∀ d ∈ x.data.toList.take A, isK d = false) (hc : isK x[A] = true) :
    editO x.data.toList = if okW x A (kindN (x[A].toNat : Int)) then (match readL (x.data.toList.drop (A + (signS (kindN (x[A].toNat : Int))).size)) with
      | none => none
      | some t => some (kindN (x[A].toNat : Int), ⟨(x.data.toList.take A).toArray⟩, ⟨t.toArray⟩)) else none := by
  have hl : x.data.toList.length = x.size := by simp
  have hAl : A < x.data.toList.length := by omega
  have hb : x.data.toList[A] = x[A] := rfl
  obtain ⟨e1, e2⟩ := k_split hAl hno (by rw [hb]; exact hc)
  rw [hb] at e2
  have hdr : x.data.toList.drop A = x[A] :: x.data.toList.drop (A + 1) := by rw [List.drop_eq_getElem_cons hAl, hb]
  have hlr : (x.data.toList.drop (A + 1)).length = x.size - A - 1 := by rw [List.length_drop, hl]; omega
  have hd2 : x.data.toList.drop (A + 2) = (x.data.toList.drop (A + 1)).tail := by rw [List.tail_drop]
  unfold editO
  rw [e2, e1]
  simp only
  generalize hr : x.data.toList.drop (A + 1) = r at *
  have hex : ∀ n, (x.extract A (A + n)).data.toList = (x[A] :: r).take n := fun n => by rw [ext_two, hdr]
  have heq : ∀ s : ByteArray, x.extract A (A + s.size) = s ↔ (x[A] :: r).take s.size = s.data.toList := fun s => by
    rw [← hex]
    exact ⟨fun h => by rw [h], fun h => ba_eq h⟩
  generalize x[A] = c at *
  rcases kind_sign hc with rfl | rfl | rfl | rfl | rfl
  all_goals
    unfold okW
  · have hk : kindN ((58 : UInt8).toNat : Int) = 1 := rfl
    have hs : signS 1 = ⟨#[58, 61]⟩ := rfl
    have hs2 : (⟨#[58, 61]⟩ : ByteArray).size = 2 := rfl
    have h2 := heq ⟨#[58, 61]⟩
    rw [hs2] at h2
    simp only [hk, hs, hs2, h2, hd2]
    cases r with
    | nil => simp at hlr ⊢
    | cons d r =>
      have h1 : 2 ≤ x.size - A := by simp at hlr; omega
      by_cases e : d = 61 <;> simp [e, h1]
  · have hk : kindN ((43 : UInt8).toNat : Int) = 2 := rfl
    have hs : signS 2 = ⟨#[43, 61]⟩ := rfl
    have hs2 : (⟨#[43, 61]⟩ : ByteArray).size = 2 := rfl
    have h2 := heq ⟨#[43, 61]⟩
    rw [hs2] at h2
    simp only [hk, hs, hs2, h2, hd2]
    cases r with
    | nil => simp at hlr ⊢
    | cons d r =>
      have h1 : 2 ≤ x.size - A := by simp at hlr; omega
      by_cases e : d = 61 <;> simp [e, h1]
  · have hk : kindN ((45 : UInt8).toNat : Int) = 3 := rfl
    have hs : signS 3 = ⟨#[45, 61]⟩ := rfl
    have hs2 : (⟨#[45, 61]⟩ : ByteArray).size = 2 := rfl
    have h2 := heq ⟨#[45, 61]⟩
    rw [hs2] at h2
    simp only [hk, hs, hs2, h2, hd2]
    cases r with
    | nil => simp at hlr ⊢
    | cons d r =>
      have h1 : 2 ≤ x.size - A := by simp at hlr; omega
      by_cases e : d = 61 <;> simp [e, h1]
  · have hk : kindN ((126 : UInt8).toNat : Int) = 4 := rfl
    have hs : signS 4 = ⟨#[126]⟩ := rfl
    have hs2 : (⟨#[126]⟩ : ByteArray).size = 1 := rfl
    have h2 := heq ⟨#[126]⟩
    rw [hs2] at h2
    simp only [hk, hs, hs2, h2, hr]
    have h1 : 1 ≤ x.size - A := by omega
    cases r with
    | nil =>
      have h3 : x.size - A ≤ 1 := by simp at hlr; omega
      simp [h1, h3, readL_nil]
    | cons d r =>
      have h3 : ¬ x.size - A ≤ 1 := by simp at hlr; omega
      simp [h3]
  · have hk : kindN ((61 : UInt8).toNat : Int) = 5 := rfl
    have hs : signS 5 = ⟨#[61, 61]⟩ := rfl
    have hs2 : (⟨#[61, 61]⟩ : ByteArray).size = 2 := rfl
    have h2 := heq ⟨#[61, 61]⟩
    rw [hs2] at h2
    simp only [hk, hs, hs2, h2, hd2]
    cases r with
    | nil => simp at hlr ⊢
    | cons d r =>
      have h1 : 2 ≤ x.size - A := by simp at hlr; omega
      by_cases e : d = 61 <;> simp [e, h1]

theorem field_nokind {l : List UInt8} (h : fieldB l = true) : ∀ c ∈ l, isK c = false := by
  intro c hc
  unfold fieldB spell at h
  cases l with
  | nil => simp at hc
  | cons x r =>
    simp only [Bool.and_eq_true, List.all_eq_true] at h
    have key : lodB (c.toNat : Int) = true ∨ smallB (c.toNat : Int) = true := by
      rcases List.mem_cons.1 hc with e | hc
      · exact Or.inr (by rw [e]; exact h.1.2)
      · exact Or.inl (h.2 _ hc)
    cases ho : isK c with
    | false => rfl
    | true =>
      rcases kind_sign ho with rfl | rfl | rfl | rfl | rfl <;> (rcases key with k | k <;> (revert k; decide))

theorem editO_back {x : Ed} (h1 : namedE x = true) (h2 : rightE x = true) : editO (wordE x).data.toList = some x := by
  obtain ⟨k, n, t⟩ := x
  have hr : (1 ≤ k ∧ k ≤ 5) ∧ (k ≠ 4 ∨ t.size = 0) := by
    unfold rightE at h2
    simp only [Bool.and_eq_true, Bool.or_eq_true, decide_eq_true_eq] at h2
    exact h2
  obtain ⟨⟨hk1, hk5⟩, hk4⟩ := hr
  have hno := field_nokind h1
  simp only at hno
  have key : ∀ (c : UInt8) (r : List UInt8), isK c = true → (n.data.toList ++ c :: r).takeWhile (fun c => !isK c) = n.data.toList ∧ (n.data.toList ++ c :: r).dropWhile (fun c => !isK c) = c :: r := fun c r hc => by
    have hkl : n.data.toList.length < (n.data.toList ++ c :: r).length := by simp
    have hg : (n.data.toList ++ c :: r)[n.data.toList.length] = c := by simp
    obtain ⟨e1, e2⟩ := k_split hkl (by rw [List.take_left' rfl]; exact hno) (by rw [hg]; exact hc)
    rw [List.take_left' rfl] at e1
    rw [hg, show n.data.toList ++ c :: r = (n.data.toList ++ [c]) ++ r by simp, List.drop_left' (by simp)] at e2
    refine ⟨e1, ?_⟩
    rw [show n.data.toList ++ c :: r = (n.data.toList ++ [c]) ++ r by simp]
    exact e2
  have hcs : k = 1 ∨ k = 2 ∨ k = 3 ∨ k = 4 ∨ k = 5 := by omega
  have hback : (⟨n.data.toList.toArray⟩ : ByteArray) = n := ba_back n
  have htb : (⟨t.data.toList.toArray⟩ : ByteArray) = t := ba_back t
  rw [wordE_data]
  simp only
  rcases hcs with rfl | rfl | rfl | rfl | rfl
  · obtain ⟨e1, e2⟩ := key 58 (61 :: writeL t.data.toList) rfl
    rw [show (signS 1).data.toList ++ writeL t.data.toList = 58 :: 61 :: writeL t.data.toList from rfl]
    unfold editO
    rw [e1, e2]
    simp only
    rw [if_neg (by decide), if_pos trivial, read_write]
    simp only
    rw [hback, htb]
    rfl
  · obtain ⟨e1, e2⟩ := key 43 (61 :: writeL t.data.toList) rfl
    rw [show (signS 2).data.toList ++ writeL t.data.toList = 43 :: 61 :: writeL t.data.toList from rfl]
    unfold editO
    rw [e1, e2]
    simp only
    rw [if_neg (by decide), if_pos trivial, read_write]
    simp only
    rw [hback, htb]
    rfl
  · obtain ⟨e1, e2⟩ := key 45 (61 :: writeL t.data.toList) rfl
    rw [show (signS 3).data.toList ++ writeL t.data.toList = 45 :: 61 :: writeL t.data.toList from rfl]
    unfold editO
    rw [e1, e2]
    simp only
    rw [if_neg (by decide), if_pos trivial, read_write]
    simp only
    rw [hback, htb]
    rfl
  · have h0 : t.size = 0 := by
      rcases hk4 with h | h
      · exact absurd rfl h
      · exact h
    have ht : t = ⟨#[]⟩ := ba_eq (List.length_eq_zero_iff.1 (by simpa using h0))
    subst ht
    obtain ⟨e1, e2⟩ := key 126 [] rfl
    rw [show (signS 4).data.toList ++ writeL (⟨#[]⟩ : ByteArray).data.toList = [126] from rfl]
    unfold editO
    rw [e1, e2]
    simp only
    rw [if_pos (by decide), if_pos trivial, hback]
  · obtain ⟨e1, e2⟩ := key 61 (61 :: writeL t.data.toList) rfl
    rw [show (signS 5).data.toList ++ writeL t.data.toList = 61 :: 61 :: writeL t.data.toList from rfl]
    unfold editO
    rw [e1, e2]
    simp only
    rw [if_neg (by decide), if_pos trivial, read_write]
    simp only
    rw [hback, htb]
    rfl

theorem edits_back (p : List Ed) (h : ∀ x ∈ p, namedE x = true ∧ rightE x = true) : editsW ((p.map wordE).map (·.data.toList)) = some p := by
  induction p with
  | nil => rfl
  | cons x p ih =>
    have hx := h x (by simp)
    simp only [List.map_cons, editsW]
    rw [editO_back hx.1 hx.2, ih fun y hy => h y (by simp [hy])]
    rfl

theorem sign_noblank (k : Int) : (32 : UInt8) ∉ (signS k).data.toList := by
  unfold signS
  repeat' split
  all_goals decide

theorem wordE_noblank {x : Ed} (h1 : namedE x = true) : (32 : UInt8) ∉ (wordE x).data.toList := by
  rw [wordE_data, List.mem_append, List.mem_append]
  rintro (h | h | h)
  · exact noblank_mem (field_noblank h1) h
  · exact sign_noblank _ h
  · exact noblank_mem (write_noblank _) h

theorem wordE_pos (x : Ed) : 0 < (wordE x).size := by
  have := (sign_size x.1).2
  unfold wordE
  rw [ByteArray.size_append, ByteArray.size_append]
  omega

/-- A line of edits is read back. -/
theorem lineE_back (p : List Ed) (h : ∀ x ∈ p, namedE x = true ∧ rightE x = true) : editsW (wordsAns (lineE p).data.toList) = some p := by
  cases p with
  | nil => rfl
  | cons x p =>
    have hne : (lineE (x :: p)).data.toList ≠ [] := by
      intro e
      have := lineB_ne (ws := (x :: p).map wordE) (by simp) (fun y hy => by obtain ⟨z, _, rfl⟩ := List.mem_map.1 hy; exact wordE_pos z)
      rw [Lib.toList_data] at this
      unfold lineE at e
      rw [e] at this
      cases this
    unfold wordsAns
    rw [if_neg hne]
    unfold lineE
    rw [lineB_data, split_join _ (by simp) (fun y hy => by
      obtain ⟨z, hz, rfl⟩ := List.mem_map.1 hy
      obtain ⟨u, hu, rfl⟩ := List.mem_map.1 hz
      exact wordE_noblank (h u hu).1)]
    exact edits_back _ h

/-- What Print and Parse answer. -/
def prE (l : List Ed) : ByteArray := if mayE l = 0 then lineE l else ⟨#[]⟩
def codeL (o : Option (List Ed)) : Int := match o with | none => 4 | some p => mayE p
def ansL (o : Option (List Ed)) : List Ed := match o with | none => [] | some p => if mayE p = 0 then p else []

theorem line_parsed {l : List Ed} (h : mayE l = 0) : codeL (editsW (wordsAns (prE l).data.toList)) = 0 ∧ ansL (editsW (wordsAns (prE l).data.toList)) = l := by
  obtain ⟨_, h1, h2, _⟩ := mayE_zero h
  unfold prE
  rw [if_pos h, lineE_back l fun x hx => ⟨h1 x hx, h2 x hx⟩]
  exact ⟨h, by unfold ansL; simp only; rw [if_pos h]⟩

end Go.Proofs.YtelcongbnmfegaaGreatDoor

/-
  The contracts of word and Print of edits.
-/
namespace Go.Proofs.YtelcongbnmfegaaGreatDoor
open Go.RowKit Go.Lib

def kC (o : Int) : UInt8 := if o = 1 then 58 else if o = 2 then 43 else if o = 3 then 45 else if o = 4 then 126 else 61

theorem kC_at (m : Nat) (h : m < 5) : Utf8.encode (((⟨#[58, 43, 45, 126, 61]⟩ : ByteArray)[m]'h).toNat : Int) = ⟨#[kC ((m : Int) + 1)]⟩ := by
  have : m = 0 ∨ m = 1 ∨ m = 2 ∨ m = 3 ∨ m = 4 := by omega
  rcases this with rfl | rfl | rfl | rfl | rfl <;> decide +revert

theorem sign_wipe : signS 4 = ⟨#[kC 4]⟩ := rfl
theorem sign_else {o : Int} (h1 : 1 ≤ o) (h2 : o ≤ 5) (h4 : o ≠ 4) : signS o = ⟨#[kC o]⟩ ++ ⟨#[61]⟩ := by
  have : o = 1 ∨ o = 2 ∨ o = 3 ∨ o = 5 := by omega
  rcases this with rfl | rfl | rfl | rfl <;> rfl

theorem rightE_range {x : Ed} (h : rightE x = true) : (1 ≤ x.1 ∧ x.1 ≤ 5) ∧ (x.1 = 4 → x.2.2.size = 0) := by
  unfold rightE at h
  rw [Bool.and_eq_true, Bool.and_eq_true, Bool.or_eq_true] at h
  refine ⟨⟨of_decide_eq_true h.1.1, of_decide_eq_true h.1.2⟩, fun e => ?_⟩
  rcases h.2 with k | k
  · exact absurd e (of_decide_eq_true k)
  · exact of_decide_eq_true k

set_option maxHeartbeats 4000000 in
set_option maxRecDepth 100000 in
theorem word_edit (x : Ed) (w : World) (hp : PlainAt w) (h1 : 1 ≤ x.1 ∧ x.1 ≤ 5) (h2 : x.2.1.size ≤ 32) (h3 : x.2.2.size ≤ 128) (h4 : x.1 = 4 → x.2.2.size = 0) :
    Calls Tryz.prog 39 #[.agg #[.int .i64 x.1, .string x.2.1, .string x.2.2]] w fun e w' => e = .returned (.string (wordE x)) ∧ Below w.heap.size w w' := by
  obtain ⟨xo, xf, xt⟩ := x
  simp only at h1 h2 h3 h4 ⊢
  obtain ⟨W, hW⟩ : ∃ W, w.alloc (.cells #[.int .i64 xo, .string xf, .string xt] 46) = W := ⟨_, rfl⟩
  obtain ⟨F, hF⟩ : ∃ F, w.heap.size = F := ⟨_, rfl⟩
  have hbw : Below w.heap.size w W := by rw [← hW]; exact (Below.refl _ _).alloc (Nat.le_refl _) _
  have hbox : BoxE W F (xo, xf, xt) := by rw [← hW, ← hF]; exact boxE_new w (xo, xf, xt)
  have hwl2 := writeL_len xt.data.toList
  have hwl3 : xt.data.toList.length = xt.size := by simp
  have HW : Hid (∀ n, Calls Tryz.prog 69 #[.string xt] (W.drewN n) fun e w' => e = .returned (.string ⟨(writeL xt.data.toList).toArray⟩) ∧ Below (W.drewN n).heap.size (W.drewN n) w') := fun n => write_any xt (W.drewN n) (hp.on (belE_drew hbw n)) (by omega)
  obtain ⟨wt, hwt⟩ : ∃ wt : ByteArray, ⟨(writeL xt.data.toList).toArray⟩ = wt := ⟨_, rfl⟩
  have hwts : wt.size ≤ 384 := by rw [← hwt]; show (writeL xt.data.toList).toArray.size ≤ 384; rw [List.size_toArray]; omega
  rw [hwt] at HW
  obtain ⟨S2, hS2⟩ : ∃ S2 : ByteArray, xf ++ ⟨#[kC xo]⟩ = S2 := ⟨_, rfl⟩
  have hS2s : S2.size ≤ 33 := by rw [← hS2, ByteArray.size_append]; show _ + 1 ≤ _; omega
  obtain ⟨S3, hS3⟩ : ∃ S3 : ByteArray, S2 ++ ⟨#[61]⟩ = S3 := ⟨_, rfl⟩
  have hS3s : S3.size ≤ 34 := by rw [← hS3, ByteArray.size_append]; show _ + 1 ≤ _; omega
  obtain ⟨S4, hS4⟩ : ∃ S4 : ByteArray, S3 ++ wt = S4 := ⟨_, rfl⟩
  have hA : ∀ w, Sem.run Tryz.prog (Op.stringOp .add xf ⟨#[kC xo]⟩) w = .ok (.string S2) w := fun w => by rw [← hS2]; exact run_string_add_sum _ _ _ (by show xf.size + 1 ≤ _; omega)
  have hB : ∀ w, Sem.run Tryz.prog (Op.stringOp .add S2 ⟨#[61]⟩) w = .ok (.string S3) w := fun w => by rw [← hS3]; exact run_string_add_sum _ _ _ (by show S2.size + 1 ≤ _; omega)
  have hC : ∀ w, Sem.run Tryz.prog (Op.stringOp .add S3 wt) w = .ok (.string S4) w := fun w => by rw [← hS4]; exact run_string_add_sum _ _ _ (by omega)
  obtain ⟨m, hm5, hxo⟩ : ∃ m : Nat, m < 5 ∧ xo = m + 1 := ⟨(xo - 1).toNat, by omega, by omega⟩
  have hw : IntKind.i64.wrap (xo - 1) = (m : Int) := by rw [hxo]; rw [show (m : Int) + 1 - 1 = m by omega]; exact wrap_i64E _ (by omega) (by omega)
  have hm0 : (0 : Int) ≤ m := by omega
  have hm5z : (m : Int) < 5 := by omega
  have hsg := kC_at m hm5
  rw [← hxo] at hsg
  have hA2 : ∀ w, Sem.run Tryz.prog (Op.stringOp .add xf (Utf8.encode (((⟨#[58, 43, 45, 126, 61]⟩ : ByteArray)[m]'hm5).toNat : Int))) w = .ok (.string S2) w := by rw [hsg]; exact hA
  obtain ⟨c0, c1, c2⟩ := hbox.cells
  have HBW := hid hbw
  simp only at c0 c1 c2
  by_cases hk : xo = 4
  · have hkb : (xo == 4) = true := by rw [hk]; rfl
    have HV : Hid (wordE (xo, xf, xt) = S2) := by
      show _ = _
      have ht0 : xt.data.toList = [] := List.length_eq_zero_iff.1 (by rw [hwl3]; exact h4 hk)
      rw [← hS2]
      unfold wordE
      simp only
      rw [ht0, show writeL [] = [] from rfl, hk, sign_wipe]
      exact ba_eq (by simp)
    clear hwl2 hwl3 hwt hS2 hS3 hS4 hwts hS2s hS3s h1 h2 h3 h4 hp hA hB hC hxo hsg hbox hbw HW hk
    go_enter Tryz.func39, Tryz.ntmps39
    rw [hF]
    go_wp2_with fail
    go_quiet (fail)
    go_wp2_with fail
    go_ret
    rw [← hF]
    exact ⟨by rw [HV.out]; rfl, belE_drew HBW.out _⟩
  · have hkb : (xo == 4) = false := beq_eq_false_iff_ne.2 hk
    have HV : Hid (wordE (xo, xf, xt) = S4) := by
      show _ = _
      rw [← hS4, ← hS3, ← hS2, ← hwt]
      unfold wordE
      simp only
      rw [sign_else h1.1 h1.2 hk]
      exact ba_eq (by simp)
    clear hwl2 hwl3 hwt hS2 hS3 hS4 hwts hS2s hS3s h1 h2 h3 h4 hp hA hxo hsg hbox hbw hk
    go_enter Tryz.func39, Tryz.ntmps39
    rw [hF]
    go_wp2_with fail
    go_quiet (fail)
    go_wp2_with (go_at_call 69; refine (HW.out _).mono ?_; rintro o w2 ⟨rfl, hb2⟩)
    go_ret
    rw [← hF]
    exact ⟨by rw [HV.out]; rfl, (belE_drew HBW.out _).trans (hb2.mono HBW.out.size)⟩

theorem joinE_any (ws : List ByteArray) (p : Option Addr) (cap : Nat) (w : World) {n0 : Nat} (h : OwnT n0 w (.slice p ws.length cap) ws) (hn : ws.length ≤ 128) (hs : ∀ x ∈ ws, x.size ≤ 418) :
    Calls Tryz.prog 40 #[.slice p ws.length cap, .string ⟨#[32]⟩] w fun e w' => e = .returned (.string ⟨(Lib.join (ws.map (·.data.toList)) [32]).toArray⟩) ∧ Below w.heap.size w w' := by
  rcases h.2 with ⟨_, h0⟩ | ⟨g, c, cur, hv, _, hg, hcap, _, hsz, htk⟩
  · obtain rfl := List.length_eq_zero_iff.1 h0
    refine (Tryz.strings_Join_none p cap _ w).mono ?_
    rintro e w' ⟨rfl, rfl⟩
    exact ⟨rfl, Below.refl _ _⟩
  · injection hv with hp hl hc
    subst hp
    subst hc
    refine (Tryz.strings_Join g 0 cap ws ⟨#[32]⟩ w (fun j x hj => ?_) (Array.getElem?_eq_some_iff.1 hg).1 (by omega) (by omega) ?_).mono ?_
    · have hjl := (List.getElem?_eq_some_iff.1 hj).1
      rw [Nat.zero_add, cell_of_row w g j cur _ _ hg, ← Array.getElem?_toList]
      have : (ws.map Value.string)[j]? = cur.toList[j]? := by rw [← htk, List.getElem?_take, if_pos (by omega)]
      rw [← this, List.getElem?_map, hj]; rfl
    · have h1 := join_len (ws.map (·.data.toList)) 418 (fun l hl => by
        obtain ⟨x, hx, rfl⟩ := List.mem_map.1 hl
        have := hs x hx
        simpa using this)
      rw [List.length_map] at h1
      have h2 : ws.length * 419 ≤ 128 * 419 := Nat.mul_le_mul_right _ hn
      show (Lib.join (ws.map (·.data.toList)) [32]).length ≤ _
      omega
    · rintro e w' ⟨rfl, hb⟩
      exact ⟨rfl, hb⟩

set_option maxHeartbeats 8000000 in
set_option maxRecDepth 100000 in
theorem pprintE_plain (v : Value) (p : List Ed) (w : World) (hp : PlainAt w) (hv : KE.Is w v p) (hf : FitE p) :
    Calls Tryz.prog 19 #[v] w fun e w' => e = .returned (.tuple #[.string (prE p), .int .i64 (mayE p)]) ∧ Below w.heap.size w w' := by
  obtain ⟨i0, hi0, hz0, hz1, hz2⟩ := info_parts Tryz.infoStr
  have HI := hid hi0
  have HN := hid (pmayE_raw v p w hv hf)
  have HP := hid hp
  by_cases hm : mayE p = 0
  · obtain ⟨hl16, hn, hr, hs⟩ := mayE_zero hm
    have HAL := hid (fun x (hx : x ∈ p) => And.intro (hn x hx) (And.intro (hr x hx) (hs x hx)))
    have HM := hid hm
    rw [hm] at HN
    obtain ⟨q, cap, rfl, hd⟩ := hv
    have HD := hid hd
    have HPR : Hid (prE p = lineB (p.map wordE)) := by show _ = _; unfold prE lineE; rw [if_pos hm]
    clear hm hn hr hs hf hp hi0 hd
    go_enter Tryz.func19, Tryz.ntmps19
    go_wp2_with fail
    refine HN.out.mono ?_
    rintro e w1 ⟨rfl, hb1⟩
    have HB1 := hid hb1
    have HP1 := hid (HP.out.on hb1)
    have HD1 : Hid (p = [] ∨ ∃ b off, q = some ⟨b, off, none⟩ ∧ KE.At w1 b off p) := by
      rcases HD.out with h | ⟨b, off, h1, h2⟩
      · exact Or.inl h
      · exact Or.inr ⟨b, off, h1, Kind.at_kept h2 hb1⟩
    clear hb1
    go_wp2_with fail
    go_loopg [5, 15] p.length (fun g vs vi wr => ∃ i : Nat, vi = .int .i64 i ∧ i ≤ p.length ∧ p.length - i ≤ g ∧ Hid (Below w1.heap.size w1 wr) ∧ Hid (OwnT w1.heap.size wr vs ((p.take i).map wordE)))
    case atStart => exact ⟨0, rfl, by omega, by omega, Below.refl _ _, World.ownsRow_nil _ _ _ _⟩
    case round =>
      obtain ⟨i, rfl, hi, hgk, HB, HO⟩ := hrel
      by_cases hlt : i < p.length
      · have hltz : (i : Int) < (p.length : Int) := by omega
        have hiz : (0 : Int) ≤ i := by omega
        obtain ⟨b, off, rfl, hat⟩ : ∃ b off, q = some ⟨b, off, none⟩ ∧ KE.At w1 b off p := by
          rcases HD1.out with h | h
          · subst h; simp at hlt
          · exact h
        obtain ⟨c0, c1, c2⟩ := ke_cells (Kind.at_kept hat HB.out) i hlt
        obtain ⟨hn, hr, hs⟩ := HAL.out _ (List.getElem_mem hlt)
        obtain ⟨hor, h4⟩ := rightE_range hr
        have hns := fieldB_len hn
        have hss := of_decide_eq_true hs
        have htk : (p.take (i + 1)).map wordE = (p.take i).map wordE ++ [wordE p[i]] := by
          rw [List.take_succ_eq_append_getElem hlt, List.map_append]; simp
        have hns2 : (p[i]).2.1.size ≤ 32 := by simpa using hns
        have hal2 : ((p.take i).map wordE).length = i := by rw [List.length_map, List.length_take]; omega
        obtain ⟨x, hx⟩ : ∃ x, p[i] = x := ⟨_, rfl⟩
        rw [hx] at c0 c1 c2 hor hns2 hss htk h4
        have HWT : Hid (∀ W, Below w1.heap.size w1 W → Calls Tryz.prog 39 #[.agg #[.int .i64 x.1, .string x.2.1, .string x.2.2]] W fun e w' => e = .returned (.string (wordE x)) ∧ Below W.heap.size W w') := fun W hb => word_edit x W (HP1.out.on hb) hor hns2 hss h4
        obtain ⟨acc, hacc⟩ : ∃ acc, (p.take i).map wordE = acc := ⟨_, rfl⟩
        rw [hacc] at HO htk hal2
        obtain ⟨wd, hwd⟩ : ∃ wd, wordE x = wd := ⟨_, rfl⟩
        rw [hwd] at HWT htk
        have HTK := hid htk
        have HAC := hid hal2
        have hal3 : acc.length ≤ 16 := by omega
        have hsz := HB.out.size
        obtain ⟨xo, xf, xt⟩ := x
        simp only at c0 c1 c2 HWT
        clear hat hn hr hs hx htk hns hss hor hns2 hwd hacc hal2 h4
        go_wp2_with (first
          | (at_builtin; refine wpList_append_own _ rfl _ _ 42 rfl w1.heap.size 9 i0 (.string ⟨#[]⟩) 1 16 Tryz.underlying42 HI.out hz0 hz1 hz2 rfl (by decide) _ _ _ rfl HO3.out _ 1 1 [.string wd] rfl rfl (by intro j u hj; match j, hj with | 0, hj => simp at hj; subst hj; simp [Addr.add]) (by intro u hu; simp at hu; subst hu; rfl) (by unfold maxLen; omega) (by omega) (by have := hb2.size; simp at this ⊢; omega) ?_; intro v4 w4 hown4 hg4 hnil4; have HO4 := hid hown4; have HG4 := hid hg4; clear hown4 hg4 hnil4)
          | (go_at_call 39; refine (HWT.out _ (HB.out.alloc hsz _)).mono ?_; rintro e w2 ⟨rfl, hb2⟩; have HO3 : Hid (OwnT w1.heap.size (w2.alloc (.cells #[.string wd] 9)) _ acc) := hid ((OwnT.on (OwnT.on HO.out ((Below.refl _ wr).alloc (Nat.le_refl _) _)) hb2).on ((Below.refl _ _).alloc (Nat.le_refl _) _))))
        go_roundg (p.length - (i + 1))
        case measure => omega
        refine ⟨i + 1, by go_num, by omega, by omega, ?_, ?_⟩
        · have hb3 : Below w1.heap.size w1 (w2.alloc (.cells #[.string wd] 9)) := (bel_then (HB.out.alloc hsz _) (HB.out.alloc hsz _).size hb2).alloc (Nat.le_trans (HB.out.alloc hsz _).size hb2.size) _
          exact hb3.grown HG4.out hb3.size (fun k hk => (World.ownsRow.lt HO3.out k hk).1)
        · rw [HTK.out]
          show OwnT _ _ _ _
          unfold OwnT
          rw [List.length_append, List.map_append]
          exact HO4.out
      · have hltz : ¬ (i : Int) < (p.length : Int) := by omega
        have htk2 : p.take i = p := List.take_of_length_le (by omega)
        rw [htk2] at HO
        have hws : ∀ y ∈ p.map wordE, y.size ≤ 418 := fun y hy => by
          obtain ⟨t, ht, rfl⟩ := List.mem_map.1 hy
          obtain ⟨a, _, c⟩ := HAL.out t ht
          exact wordE_len a c
        have hwl : (p.map wordE).length ≤ 128 := by rw [List.length_map]; omega
        obtain ⟨ws, hwe⟩ : ∃ ws, p.map wordE = ws := ⟨_, rfl⟩
        rw [hwe] at HPR
        have HLN : Hid (lineB ws = ⟨(Lib.join (ws.map (·.data.toList)) [32]).toArray⟩) := by show _ = _; rfl
        rw [hwe] at HO hws hwl
        clear htk2 hwe
        obtain ⟨p4, cap4, hv4⟩ := own_slice HO.out
        subst hv4
        have HJ := hid (joinE_any ws p4 cap4 wr HO.out hwl hws)
        clear hws hwl
        go_wp2_with (first | (go_at_call 40; refine HJ.out.mono ?_; rintro e w2 ⟨rfl, hb2⟩))
        go_ret2
        exact ⟨by rw [HM.out, HPR.out, HLN.out]; rfl, bel_then (bel_then HB1.out HB1.out.size HB.out) (bel_then HB1.out HB1.out.size HB.out).size hb2⟩
  · have hne : (mayE p != 0) = true := by rw [bne_iff_ne]; exact hm
    have HA : Hid (prE p = ⟨#[]⟩) := by show _ = _; unfold prE; rw [if_neg hm]
    obtain ⟨r, hr⟩ : ∃ r, mayE p = r := ⟨_, rfl⟩
    rw [hr] at hne HN
    have HR := hid hr
    clear hm hr hv hf hp
    go_enter Tryz.func19, Tryz.ntmps19
    go_wp2_with fail
    refine HN.out.mono ?_
    rintro e w1 ⟨rfl, hb1⟩
    have HB1 := hid hb1
    clear hb1
    go_wp2_with fail
    go_ret2
    exact ⟨by rw [HR.out, HA.out]; rfl, HB1.out⟩

end Go.Proofs.YtelcongbnmfegaaGreatDoor

/-
  An append of a row that came in, whatever its length; a row of fields whose texts lie elsewhere.
-/
namespace Go.Proofs.YtelcongbnmfegaaGreatDoor
open Go.RowKit Go.Lib

theorem grownBy_refl (w : World) (g : Option Nat) : w.grownBy w g := ⟨rfl, rfl, rfl, Nat.le_refl _, fun _ _ _ => rfl⟩

theorem wpList_append_rows {ops : Array Oper} {rest : List Oper} {o : Oper} {a : Act} {Q : Exit → Act → World → Prop} (w : World) (hgd : o.guard = none) (s x : Operand) (t : TypeId)
    (ho : o.op = .call { callee := .builtin .append, args := #[s, x], argTypes := #[t, t] })
    (base : Nat) (e : TypeId) (i : TypeInfo) (z : Value) (size bytes : Nat) (ht : Tryz.prog.underlying t = some (.slice e)) (hi : Tryz.prog.info? e = some i) (hz : i.zero = some z)
    (hsize : i.size = size) (hby : i.bytes = bytes) (hzs : z.cells.size = size) (hsz : 0 < size)
    (v : Value) (n : Nat) (xs : List Value) (hs : a.eval s = v) (hown : w.ownsRow base e size v n xs)
    (p : Option Addr) (m c : Nat) (news : List Value) (hx : a.eval x = .slice p m c) (hl : news.length = m * size)
    (hsrc : m = 0 ∨ ∃ ad, p = some ad ∧ ∀ j u, news[j]? = some u → w.cell? (ad.add j) = some u) (h1 : ∀ u ∈ news, u.oneCell' = true)
    (h63 : n + m ≤ maxLen) (hbytes : (n + m) * bytes ≤ 140737488355328) (hbase : base ≤ w.heap.size)
    (h : ∀ v' w', w'.ownsRow base e size v' (n + m) (xs ++ news) → w.grownBy w' v.ownBlock → wpList Tryz.prog ops Q rest (a.put o.dst v') w') :
    wpList Tryz.prog ops Q (o :: rest) a w := by
  rcases hsrc with rfl | ⟨ad, rfl, hc⟩
  · have hn : news = [] := List.length_eq_zero_iff.1 (by simpa using hl)
    subst hn
    obtain ⟨q, cap, hv, hcap, hq⟩ : ∃ q cap, v = .slice q n cap ∧ n ≤ cap ∧ (q = none → n = 0 ∧ cap = 0) := by
      rcases hown.2 with ⟨hv, h0⟩ | ⟨g, cap, cur, hv, _, _, hc, _⟩
      · exact ⟨none, 0, by rw [hv, h0], by omega, fun _ => ⟨h0, rfl⟩⟩
      · exact ⟨_, cap, hv, hc, fun h => by cases h⟩
    have hrun : (Builtin.append_ #[t, t] o.type #[.slice q n cap, .slice p 0 c]).run Tryz.prog w = .ok (.slice q n cap) w := by
      cases q with
      | none =>
        obtain ⟨rfl, rfl⟩ := hq rfl
        cases p <;> simp [Builtin.append_, run_underlying ht, Builtin.lenOf, Builtin.firstCells, sizeOf, typeInfo, hi, loadCells, loadCellsFrom]
      | some q =>
        cases p <;> simp [Builtin.append_, run_underlying ht, Builtin.lenOf, Builtin.firstCells, sizeOf, typeInfo, hi, storeCells, loadCells, loadCellsFrom, hcap]
    rw [hv] at hs
    refine wpList_plain hgd fun K hK' => ?_
    unfold Oper.wp
    simp [execOp, ho, resolve, invoke, builtin, hs, hx, hrun, Result.andThen]
    refine hK' _ _ (h _ _ ?_ (grownBy_refl _ _))
    rw [← hv, List.append_nil]
    exact hown
  · exact wpList_append_own _ hgd s x t ho base e i z size bytes ht hi hz hsize hby hzs hsz v n xs hs hown ad m c news hx hl hc h1 h63 hbytes hbase (fun v' w' h2 h3 _ => h v' w' h2 h3)

/-- v owns a row of the fields d, in a block at or behind n0; their texts lie anywhere. -/
def RowX (n0 : Nat) (w : World) (v : Value) (d : List Fx) : Prop := w.ownsRow n0 44 2 v d.length (cellsX d)

theorem RowX.is {n0 : Nat} {w : World} {v : Value} {d : List Fx} (h1 : RowX n0 w v d) (h2 : ∀ x ∈ d, x.at w) : IsXs w v d := by
  rcases h1.2 with ⟨rfl, h0⟩ | ⟨g, c, cur, rfl, _, hg, _, _, hsz, htk⟩
  · obtain rfl := List.length_eq_zero_iff.1 h0
    exact ⟨none, 0, rfl, Or.inl rfl, fun x hx => by simp at hx⟩
  · refine ⟨_, c, rfl, Or.inr ⟨g, 0, rfl, fun i hi => ?_⟩, h2⟩
    obtain ⟨c0, c1⟩ := cellsX_get d i hi
    have e : ∀ j, j < d.length * 2 → (cellsX d)[j]? = cur[j]? := fun j hj => by
      rw [← htk, List.getElem?_take, if_pos hj, Array.getElem?_toList]
    rw [Nat.zero_add, cell_of_row w g _ cur _ _ hg, cell_of_row w g _ cur _ _ hg, ← e _ (by omega), ← e _ (by omega)]
    exact ⟨c0, c1⟩

/-- What a slice of fields gives an append. -/
theorem src_xs {w : World} {p : Option Addr} {d : List Fx} (h : d = [] ∨ ∃ b off, p = some ⟨b, off, none⟩ ∧ XsAt w b off d) :
    d.length = 0 ∨ ∃ ad, p = some ad ∧ ∀ j u, (cellsX d)[j]? = some u → w.cell? (ad.add j) = some u := by
  rcases h with rfl | ⟨b, off, rfl, hx⟩
  · exact Or.inl rfl
  · refine Or.inr ⟨_, rfl, fun j u hu => ?_⟩
    have hj : j < d.length * 2 := by
      have := (List.getElem?_eq_some_iff.1 hu).1
      rwa [cellsX_len] at this
    have hk : j / 2 < d.length := by omega
    obtain ⟨c0, c1⟩ := cellsX_get d (j / 2) hk
    obtain ⟨m0, m1⟩ := hx (j / 2) hk
    rw [addr_add]
    by_cases e : j % 2 = 0
    · have ej : j = j / 2 * 2 := by omega
      rw [ej] at hu ⊢
      rw [c0] at hu
      rw [m0]; exact hu
    · have ej : j = j / 2 * 2 + 1 := by omega
      rw [ej] at hu ⊢
      rw [c1] at hu
      rw [← Nat.add_assoc, m1]; exact hu

/-- What a slice of texts gives an append. -/
theorem src_ts {w : World} {p : Option Addr} {ts : List ByteArray} (h : TxtAt w p ts) :
    ts.length = 0 ∨ ∃ ad, p = some ad ∧ ∀ j u, (ts.map Value.string)[j]? = some u → w.cell? (ad.add j) = some u := by
  rcases h with rfl | ⟨b, off, rfl, hx⟩
  · exact Or.inl rfl
  · refine Or.inr ⟨_, rfl, fun j u hu => ?_⟩
    have hj : j < ts.length := by simpa using (List.getElem?_eq_some_iff.1 hu).1
    rw [addr_add, hx j hj]
    rw [List.getElem?_map, List.getElem?_eq_getElem hj] at hu
    exact hu

theorem txts_one (ts : List ByteArray) : ∀ u ∈ ts.map Value.string, u.oneCell' = true := by
  intro u hu
  obtain ⟨t, _, rfl⟩ := List.mem_map.1 hu
  rfl

/-- What the reference's Texts answers. -/
def RtPost (w : World) (ts : List ByteArray) (e : Ending) (w' : World) : Prop := (∃ p c, e = .returned (.slice p ts.length c) ∧ TxtAt w p ts) ∧ w' = w

set_option maxHeartbeats 2000000 in
set_option maxRecDepth 100000 in
theorem rtexts_any (v : Value) (nm : ByteArray) (d : List Fx) (w : World) (hv : IsXs w v d) (hf : FitX d) :
    Calls Tryz.prog 28 #[v, .string nm] w fun e w' => RtPost w (textsOf (d.map Fx.fld) nm) e w' := by
  obtain ⟨p, cap, rfl, hd, ht⟩ := hv
  have HT := hid ht
  have HD := hid hd
  have hl := hf.1
  unfold maxLen at hl
  clear ht hd hf
  go_enter Tryz.func28, Tryz.ntmps28
  go_wp2_with fail
  go_loopg [5] d.length (fun g vi wr => ∃ i : Nat, vi = .int .i64 i ∧ i ≤ d.length ∧ d.length - i ≤ g ∧ w = wr ∧ Hid (∀ j (h : j < d.length), j < i → d[j].name ≠ nm))
  case atStart => exact ⟨0, rfl, by omega, by omega, rfl, fun j _ h => by omega⟩
  case round =>
    obtain ⟨i, rfl, hi, hg, rfl, HJ⟩ := hrel
    by_cases hlt : i < d.length
    · have hltz : (i : Int) < (d.length : Int) := by omega
      have hiz : (0 : Int) ≤ i := by omega
      obtain ⟨b, off, rfl, hxs⟩ : ∃ b off, p = some ⟨b, off, none⟩ ∧ XsAt w b off d := by
        rcases HD.out with h | h
        · subst h; simp at hlt
        · exact h
      obtain ⟨c0, c1⟩ := hxs i hlt
      have hxi : (d[i]).at w := HT.out _ (List.getElem_mem hlt)
      have hyes : d[i].name = nm → textsOf (d.map Fx.fld) nm = d[i].txt := fun e => by
        have := textsOf_at (d.map Fx.fld) nm i (by rw [List.length_map]; exact hlt) (fun j hj => by simp only [List.getElem_map]; exact HJ.out j (by omega) hj) (by simp only [List.getElem_map]; exact e)
        simpa [Fx.fld] using this
      have hnx : d[i].name ≠ nm → ∀ j (h : j < d.length), j < i + 1 → d[j].name ≠ nm := fun e j h hj => by
        by_cases ej : j = i
        · subst ej; exact e
        · exact HJ.out j h (by omega)
      obtain ⟨x, hx⟩ : ∃ x, d[i] = x := ⟨_, rfl⟩
      rw [hx] at c0 c1 hxi hyes hnx
      have HXI := hid hxi
      have HYES := hid hyes
      have HNX := hid hnx
      clear hxs hxi hx hyes hnx
      unfold Fx.sl at c1
      cases hq : (x.name.toList == nm.toList) with
      | true =>
        have hq2 : x.name = nm := by rw [toList_eq, decide_eq_true_eq] at hq; exact hq
        have HQ := hid (HYES.out hq2)
        clear hq2
        go_wp2_with fail
        go_ret
        rw [HQ.out]
        exact ⟨⟨_, _, rfl, HXI.out⟩, rfl⟩
      | false =>
        have hq2 : x.name ≠ nm := by rw [toList_eq, decide_eq_false_iff_not] at hq; exact hq
        have HQ := hid (HNX.out hq2)
        clear hq2
        go_wp2_with fail
        go_roundg (d.length - (i + 1))
        case measure => omega
        exact ⟨i + 1, by go_num, by omega, by omega, rfl, HQ.out⟩
    · have hltz : ¬ (i : Int) < (d.length : Int) := by omega
      have H0 : Hid (textsOf (d.map Fx.fld) nm = []) := textsOf_no _ _ (fun j hj => by
        rw [List.length_map] at hj
        simp only [List.getElem_map]
        exact HJ.out j hj (by omega))
      go_wp2_with fail
      go_ret
      rw [H0.out]
      exact ⟨⟨none, 0, rfl, Or.inl rfl⟩, rfl⟩

end Go.Proofs.YtelcongbnmfegaaGreatDoor

/-
  Rows of fields: cells copied, cleared, moved; a field taken out of a row, a field laid into it.
-/
namespace Go.Proofs.YtelcongbnmfegaaGreatDoor
open Go.RowKit Go.Lib

/-- copy within rows, whatever the elements' size. -/
theorem run_copyK {P : Program} (w : World) (dT sT ty elem : TypeId) (i0 : TypeInfo) (hu : P.underlying dT = some (.slice elem)) (hi : P.info? elem = some i0) (g o dLen dCap : Nat) (a : Addr) (sLen sCap : Nat) (cur : Array Value) (t : TypeId) (cs : List Value)
    (hg : w.heap[g]? = some (.cells cur t (0, 0))) (m : Nat) (hm : Nat.min sLen dLen = m) (hn : cs.length = m * i0.size)
    (hsrc : ∀ j v, cs[j]? = some v → w.cell? (a.add j) = some v) (hfit : o + cs.length ≤ cur.size) (h1 : ∀ v ∈ cs, v.oneCell' = true) :
    (Builtin.copy_ #[dT, sT] ty #[.slice (some ⟨g, o, none⟩) dLen dCap, .slice (some a) sLen sCap]).run P w =
      .ok (goInt m) (w.setRow g (cur.toList.take o ++ cs ++ cur.toList.drop (o + cs.length)).toArray) := by
  have hfc := run_firstCells_some (P := P) w i0.size m a sLen sCap cs hn hsrc
  have hst := run_storeCells_at P g o t cs 0 cur w hg (by simpa using hfit) h1
  simp only [Nat.add_zero] at hst
  simp [Builtin.copy_, run_underlying hu, Builtin.lenOf, sizeOf, typeInfo, hi, hm, hfc, hst]

/-- clear of fields in a row. -/
theorem run_clearX (w : World) (ty : TypeId) (g o n c : Nat) (hn : 0 < n) (hc : ∀ j, j < n * 2 → (w.cell? ⟨g, o + j, none⟩).isSome = true) (hf : ∀ j, j < n * 2 → w.frozen? ⟨g, o + j, none⟩ = false) :
    ∃ zs : List Value, (Builtin.clear_ #[22] ty #[.slice (some ⟨g, o, none⟩) n c]).run Tryz.prog w = .ok (.tuple #[]) (w.setCells g o zs) := by
  have hv : ∀ w, (zeroValue 44).run Tryz.prog w = .ok (.agg #[.string ⟨#[]⟩, .slice none 0 0]) w := Tryz.zeroValue44
  obtain ⟨zs, hzs⟩ : ∃ zs, (Builtin.zeroCells (Value.agg #[.string ⟨#[]⟩, .slice none 0 0]).cells n).toList = zs := ⟨_, rfl⟩
  have hl : zs.length = n * 2 := by rw [← hzs, Array.length_toList, size_zeroCells]; rfl
  have h1 : ∀ v ∈ zs, v.oneCell' = true := by
    intro v hm
    rw [← hzs] at hm
    simp only [Builtin.zeroCells, Array.toList_map, List.mem_map] at hm
    obtain ⟨i, _, rfl⟩ := hm
    have h3 : i % (Value.agg #[.string ⟨#[]⟩, .slice none 0 0]).cells.size < 2 := Nat.mod_lt _ (by decide)
    obtain ⟨m, hm⟩ : ∃ m, i % (Value.agg #[.string ⟨#[]⟩, .slice none 0 0]).cells.size = m := ⟨_, rfl⟩
    rw [hm] at h3 ⊢
    rcases (show m = 0 ∨ m = 1 by omega) with rfl | rfl <;> rfl
  refine ⟨zs, ?_⟩
  have hst := run_storeCells_cells (P := Tryz.prog) g o zs 0 w (by rw [hl]; simpa using hc) (by rw [hl]; simpa using hf) h1
  simp only [Nat.add_zero] at hst
  obtain ⟨m, rfl⟩ : ∃ m, n = m + 1 := ⟨n - 1, by omega⟩
  simp [Builtin.clear_, run_underlying Tryz.underlying22, hv, hzs, hst]

theorem cellsX_ones (d : List Fx) : ∀ u ∈ cellsX d, u.oneCell' = true := by
  intro u hu
  obtain ⟨x, _, hx⟩ := List.mem_flatMap.1 hu
  simp [encX, Fx.sl] at hx
  rcases hx with rfl | rfl <;> rfl

theorem cellsX_take (d : List Fx) (k : Nat) : cellsX (d.take k) = (cellsX d).take (k * 2) := by
  by_cases hk : k ≤ d.length
  · have e : cellsX d = cellsX (d.take k) ++ cellsX (d.drop k) := by rw [← cellsX_append, List.take_append_drop]
    have hl : (cellsX (d.take k)).length = k * 2 := by rw [cellsX_len, List.length_take]; omega
    rw [e, ← hl, List.take_left]
  · have e1 : d.take k = d := List.take_of_length_le (by omega)
    have e2 : (cellsX d).take (k * 2) = cellsX d := List.take_of_length_le (by rw [cellsX_len]; omega)
    rw [e1, e2]

theorem cellsX_drop (d : List Fx) (k : Nat) : cellsX (d.drop k) = (cellsX d).drop (k * 2) := by
  by_cases hk : k ≤ d.length
  · have e : cellsX d = cellsX (d.take k) ++ cellsX (d.drop k) := by rw [← cellsX_append, List.take_append_drop]
    have hl : (cellsX (d.take k)).length = k * 2 := by rw [cellsX_len, List.length_take]; omega
    rw [e, ← hl, List.drop_left]
  · have e1 : d.drop k = [] := List.drop_of_length_le (by omega)
    have e2 : (cellsX d).drop (k * 2) = [] := List.drop_of_length_le (by rw [cellsX_len]; omega)
    rw [e1, e2]
    rfl

/-- A row of fields, and the block that it lies in. -/
theorem rowX_block {N g n cap : Nat} {w : World} {o : List Fx} (h : RowX N w (.slice (some ⟨g, 0, none⟩) n cap) o) :
    o.length = n ∧ N ≤ g ∧ n ≤ cap ∧ cap ≤ maxLen ∧ ∃ cur : Array Value, w.heap[g]? = some (.cells cur 44 (0, 0)) ∧ cur.size = cap * 2 ∧ cur.toList.take (n * 2) = cellsX o := by
  rcases h.2 with ⟨hv, _⟩ | ⟨g', cap', cur, hv, h1, h2, h3, h4, h5, h6⟩
  · cases hv
  · injection hv with e1 e2 e3
    injection e1 with e1
    injection e1 with e1 _ _
    subst e1 e2 e3
    exact ⟨rfl, h1, h3, h4, cur, h2, h5, h6⟩

theorem rowX_mk {N g n cap : Nat} {w : World} {o : List Fx} {cur : Array Value} (hn : o.length = n) (h1 : N ≤ g) (h2 : w.heap[g]? = some (.cells cur 44 (0, 0))) (h3 : n ≤ cap) (h4 : cap ≤ maxLen) (h5 : cur.size = cap * 2) (h6 : cur.toList.take (n * 2) = cellsX o) :
    RowX N w (.slice (some ⟨g, 0, none⟩) n cap) o := by
  subst hn
  exact ⟨cellsX_len o, Or.inr ⟨g, cap, cur, rfl, h1, h2, h3, h4, h5, h6⟩⟩

/-- Cells of the row behind its end written over. -/
theorem rowX_past {N g n cap : Nat} {o : List Fx} (vs : List Value) : ∀ (w : World) (p : Nat), RowX N w (.slice (some ⟨g, 0, none⟩) n cap) o → o.length = n → n * 2 ≤ p → RowX N (w.setCells g p vs) (.slice (some ⟨g, 0, none⟩) n cap) o := by
  induction vs with
  | nil => intro w p h _ _; exact h
  | cons v vs ih =>
    intro w p h hn hp
    rw [World.setCells]
    refine ih _ _ ?_ hn (by omega)
    subst hn
    have h1 := (World.ownsRow.stored h p v).1
    rw [List.set_eq_of_length_le (by rw [cellsX_len]; exact hp)] at h1
    exact h1

theorem grown_setsX {g : Nat} (vs : List Value) : ∀ (w w0 : World) (p : Nat), w0.grownBy w (some g) → w0.grownBy (w.setCells g p vs) (some g) := by
  induction vs with
  | nil => intro w w0 p h; exact h
  | cons v vs ih => intro w w0 p h; rw [World.setCells]; exact ih _ _ _ (grown_trans h (grown_set w g p v))

theorem grown_setRow (w : World) (g : Nat) (cs : Array Value) : w.grownBy (w.setRow g cs) (some g) :=
  ⟨rfl, rfl, rfl, by simp [World.setRow], fun k _ hne => setRow_other w g k _ (fun e => hne (by rw [e]))⟩

theorem grown_setRowD (w : World) (g : Nat) (cs : Array Value) : w.grownBy (w.drew.setRow g cs) (some g) :=
  ⟨rfl, rfl, rfl, by simp [World.setRow], fun k _ hne => setRow_other w.drew g k _ (fun e => hne (by rw [e]))⟩

/-- The row behind 'append(s[:i], s[i+1:]...)'. -/
theorem rowX_del {N g n cap i : Nat} {w : World} {o : List Fx} {cur : Array Value} (hn : o.length = n) (hi : i < n) (h1 : N ≤ g) (h2 : w.heap[g]? = some (.cells cur 44 (0, 0))) (h3 : n ≤ cap) (h4 : cap ≤ maxLen) (h5 : cur.size = cap * 2) (h6 : cur.toList.take (n * 2) = cellsX o) :
    RowX N (w.setRow g (cur.toList.take (i * 2) ++ cellsX (o.drop (i + 1)) ++ cur.toList.drop (i * 2 + (cellsX (o.drop (i + 1))).length)).toArray) (.slice (some ⟨g, 0, none⟩) (n - 1) cap) (o.eraseIdx i) := by
  have hl : (cellsX (o.drop (i + 1))).length = (n - (i + 1)) * 2 := by rw [cellsX_len, List.length_drop, hn]
  have hc : cur.toList.length = cap * 2 := by rw [Array.length_toList, h5]
  have e1 : cur.toList.take (i * 2) = cellsX (o.take i) := by
    rw [cellsX_take, ← h6, List.take_take]
    congr 1
    omega
  refine rowX_mk (by rw [List.length_eraseIdx, if_pos (by omega), hn]) h1 (setRow_heap w g cur _ _ _ h2) (by omega) h4 ?_ ?_
  · simp only [List.size_toArray, List.length_append, List.length_take, List.length_drop, hl, hc]
    omega
  · rw [e1, ← cellsX_append, List.eraseIdx_eq_take_drop_succ]
    show List.take _ (_ ++ _) = _
    rw [List.take_append_of_le_length (by rw [cellsX_len]; simp; omega), List.take_of_length_le (by rw [cellsX_len]; simp; omega)]

/-- The row behind 'copy(s[i+1:], s[i:])' and 'copy(s[i:], x)', where there is room. -/
theorem rowX_ins {N g n cap i : Nat} {w : World} {o : List Fx} {x : Fx} {cur : Array Value} (hn : o.length = n) (hi : i ≤ n) (h1 : N ≤ g) (h2 : w.heap[g]? = some (.cells cur 44 (0, 0))) (h3 : n + 1 ≤ cap) (h4 : cap ≤ maxLen) (hs : cur.size = cap * 2)
    (h6 : cur.toList.take (i * 2) = cellsX (o.take i)) (h7 : (cur.toList.drop (i * 2)).take 2 = encX x) (h8 : (cur.toList.drop ((i + 1) * 2)).take ((n - i) * 2) = cellsX (o.drop i)) :
    RowX N w (.slice (some ⟨g, 0, none⟩) (n + 1) cap) (o.take i ++ x :: o.drop i) := by
  refine rowX_mk (by simp; omega) h1 h2 h3 h4 hs ?_
  have hc : cur.toList.length = cap * 2 := by rw [Array.length_toList, hs]
  have e : cur.toList.take ((n + 1) * 2) = cur.toList.take (i * 2) ++ ((cur.toList.drop (i * 2)).take 2 ++ (cur.toList.drop ((i + 1) * 2)).take ((n - i) * 2)) := by
    rw [show (n + 1) * 2 = i * 2 + (2 + (n - i) * 2) by omega, List.take_add, List.take_add, List.drop_drop]
    rw [show i * 2 + 2 = (i + 1) * 2 by omega]
  rw [e, h6, h7, h8]
  show _ = cellsX (o.take i ++ ([x] ++ o.drop i))
  rw [cellsX_append, cellsX_append]
  simp [cellsX]

end Go.Proofs.YtelcongbnmfegaaGreatDoor

/-
  A name's place among fields that rise by name; a value with other texts for a name, as a field is taken out and laid in.
-/
namespace Go.Proofs.YtelcongbnmfegaaGreatDoor
open Go.RowKit

structure Place (r : List Fld) (n : ByteArray) (c : Nat) (F : Bool) : Prop where
  le : c ≤ r.length
  lt : ∀ k (h : k < r.length), ltB (r[k]).1 n = true ↔ k < c
  pre : r.filter (fun f => ltB f.1 n) = r.take c
  here : F = true → ∃ h : c < r.length, (r[c]).1 = n
  no : F = false → ∀ h : c < r.length, (r[c]).1 ≠ n
  post : r.filter (fun f => ltB n f.1) = r.drop (if F then c + 1 else c)

theorem filter_all {r : List Fld} {p : Fld → Bool} (h : ∀ f ∈ r, p f = true) : r.filter p = r := List.filter_eq_self.2 h
theorem filter_no {r : List Fld} {p : Fld → Bool} (h : ∀ f ∈ r, p f = false) : r.filter p = [] := List.filter_eq_nil_iff.2 fun f hf => by rw [h f hf]; simp

theorem place_of : ∀ (r : List Fld) (_ : Rising r) (n : ByteArray), ∃ c F, Place r n c F
  | [], _, n => ⟨0, false, ⟨Nat.le_refl _, fun k h => (by simp at h), rfl, fun h => (by cases h), fun _ h => (by simp at h), rfl⟩⟩
  | f :: r, h, n => by
    obtain ⟨hf, hr⟩ := List.pairwise_cons.1 h
    rcases ltB_cases f.1 n with k | k | k
    · obtain ⟨c, F, P⟩ := place_of r hr n
      refine ⟨c + 1, F, ⟨by have := P.le; simp; omega, fun j hj => ?_, ?_, fun e => ?_, fun e hc => ?_, ?_⟩⟩
      · cases j with
        | zero => simp [k]
        | succ j => simpa using P.lt j (by simpa using hj)
      · rw [List.filter_cons_of_pos (p := fun (f : Fld) => ltB f.1 n) k, P.pre]; rfl
      · obtain ⟨h1, h2⟩ := P.here e
        exact ⟨by simpa using h1, by simpa using h2⟩
      · simpa using P.no e (by simpa using hc)
      · rw [List.filter_cons_of_neg (by rw [ltB_asymm k]; simp), P.post]
        cases F <;> rfl
    · subst k
      refine ⟨0, true, ⟨Nat.zero_le _, fun j hj => ?_, ?_, fun _ => ⟨by simp, rfl⟩, fun e => (by cases e), ?_⟩⟩
      · cases j with
        | zero => simp [ltB_irrefl]
        | succ j =>
          have := hf _ (List.getElem_mem (l := r) (n := j) (by simpa using hj))
          simp [ltB_asymm this]
      · refine filter_no fun g hg => ?_
        rcases List.mem_cons.1 hg with rfl | hg
        · exact ltB_irrefl _
        · exact ltB_asymm (hf g hg)
      · rw [List.filter_cons_of_neg (by rw [ltB_irrefl]; simp)]
        exact filter_all hf
    · have hall : ∀ g ∈ f :: r, ltB n g.1 = true := fun g hg => by
        rcases List.mem_cons.1 hg with rfl | hg
        · exact k
        · exact ltB_trans k (hf g hg)
      refine ⟨0, false, ⟨Nat.zero_le _, fun j hj => ?_, ?_, fun e => (by cases e), fun _ hc => ?_, ?_⟩⟩
      · have := hall _ (List.getElem_mem hj)
        simp [ltB_asymm this]
      · exact filter_no fun g hg => ltB_asymm (hall g hg)
      · exact (ltB_ne k).symm
      · exact filter_all hall

/-- The value with other texts, by the place. -/
theorem setF_place {r : List Fld} {n : ByteArray} {c : Nat} {F : Bool} (P : Place r n c F) (ts : List ByteArray) :
    setF r n ts = r.take c ++ ((if ts.isEmpty then [] else [(n, ts)]) ++ r.drop (if F then c + 1 else c)) := by
  unfold setF
  rw [P.pre, P.post]

theorem erase_take {α : Type} (l : List α) (c : Nat) (h : c < l.length) : (l.eraseIdx c).take c = l.take c ∧ (l.eraseIdx c).drop c = l.drop (c + 1) := by
  rw [List.eraseIdx_eq_take_drop_succ]
  have hl : (l.take c).length = c := by rw [List.length_take]; omega
  constructor
  · rw [List.take_append_of_le_length (by omega), List.take_of_length_le (by omega)]
  · have := List.drop_left (l₁ := l.take c) (l₂ := l.drop (c + 1))
    rwa [hl] at this

theorem apart_sym {x y : Fx} (h : x.sl.ownBlock = none ∨ x.sl.ownBlock ≠ y.sl.ownBlock) : y.sl.ownBlock = none ∨ y.sl.ownBlock ≠ x.sl.ownBlock := by
  rcases h with h | h
  · cases hy : y.sl.ownBlock with
    | none => exact Or.inl rfl
    | some k => right; rw [h]; simp
  · exact Or.inr h.symm

theorem apart_ins {a b : List Fx} {x : Fx} (h : Apart (a ++ b)) (hx : ∀ y ∈ a ++ b, y.sl.ownBlock = none ∨ y.sl.ownBlock ≠ x.sl.ownBlock) : Apart (a ++ x :: b) := by
  unfold Apart at *
  obtain ⟨h1, h2, h3⟩ := List.pairwise_append.1 h
  refine List.pairwise_append.2 ⟨h1, List.pairwise_cons.2 ⟨fun y hy => apart_sym (hx y (by simp [hy])), h2⟩, fun y hy z hz => ?_⟩
  rcases List.mem_cons.1 hz with rfl | hz
  · exact hx y (by simp [hy])
  · exact h3 y hy z hz

theorem apart_less {a b : List Fx} (h : Apart b) (hs : List.Sublist a b) : Apart a := List.Pairwise.sublist hs h

end Go.Proofs.YtelcongbnmfegaaGreatDoor

/-
  The operations of a region that draws its order, taken one by one by hand: what yields a value, what is passed over. No program.
-/

namespace Go.Proofs.YtelcongbnmfegaaGreatDoor


theorem at_drop0 {ops : Array Oper} {i : Nat} {oi : Oper} {rest : List Oper} (h : ops.toList.drop i = oi :: rest) : ops[i]? = some oi := by
  rw [← Array.getElem?_toList, ← List.head?_drop, h]; rfl

section
variable {P : Program} {ops : Array Oper} {Q : Exit → Act → World → Prop} {md : Region.Mode} {S : World → Prop}
/-- Operation number i of a drawn region is taken first: it yields v. -/
theorem take_val {i fuel : Nat} {listed : Array Bool} {a : Act} {w : World} (v : Value) {oi : Oper} {rest : List Oper} (hd : ops.toList.drop i = oi :: rest)
    (hs : Region.noSelect ops = true) (hf : Region.free md ops listed i = true) (hr : (Region.ready md ops listed).contains i = true)
    (hQ : ∀ c a w, Q (.panic c) (a.put oi.dst v) w → Q (.panic c) a w) (hw : Region.wanted oi (yielded ops a.tmps) = true) (hy : ∀ w, S w → (execOp a.eval oi).run P w = .ok (.value v) w) (hS : S w)
    (h : wpAnyH P md ops Q S fuel (listed.setIfInBounds i true) (a.put oi.dst v) w) : wpAnyH P md ops Q S (fuel + 1) listed a w :=
  wpAnyH_take (at_drop0 hd) hs hf hr hQ (Or.inl ⟨hw, hy⟩) hS h
/-- Operation number i of a drawn region is passed over. -/
theorem take_not {i fuel : Nat} {listed : Array Bool} {a : Act} {w : World} {oi : Oper} {rest : List Oper} (hd : ops.toList.drop i = oi :: rest)
    (hs : Region.noSelect ops = true) (hf : Region.free md ops listed i = true) (hr : (Region.ready md ops listed).contains i = true)
    (hQ : ∀ c a w, Q (.panic c) (a.put oi.dst undef) w → Q (.panic c) a w) (hw : Region.wanted oi (yielded ops a.tmps) = false) (hS : S w)
    (h : wpAnyH P md ops Q S fuel (listed.setIfInBounds i true) (a.put oi.dst undef) w) : wpAnyH P md ops Q S (fuel + 1) listed a w :=
  wpAnyH_take (at_drop0 hd) hs hf hr hQ (Or.inr ⟨hw, rfl⟩) hS h
end

end Go.Proofs.YtelcongbnmfegaaGreatDoor

/-
  The words tk_val, tk_not, tk_call, tk_on, tk_end of a drawn region taken by hand (Tak) are written out where a text is laid (inst.py): here are their imports alone.
-/
namespace Go.Proofs.YtelcongbnmfegaaGreatDoor

end Go.Proofs.YtelcongbnmfegaaGreatDoor

/-
  The contracts of againstName, of slices.BinarySearchFunc over it, and of slices.Delete at fields.
-/
namespace Go.Proofs.YtelcongbnmfegaaGreatDoor
open Go.RowKit Go.Lib

theorem enters_against : ∀ args w, (callFunc 89 args).run Tryz.prog w = .ok (.enter 89 args) w := enters_of Tryz.func89 (by kernel_rfl) rfl

set_option maxHeartbeats 1000000 in
theorem against_any (nm n : ByteArray) (sl : Value) (w : World) : Calls Tryz.prog 89 #[.agg #[.string nm, sl], .string n] w fun e w' => e = .returned (.int .i64 (Lib.compareBytes nm.data.toList n.data.toList)) ∧ Below w.heap.size w w' := by
  go_enter Tryz.func89, Tryz.ntmps89
  go_wp2_with (first | (go_at_call 116; refine (Tryz.strings_Compare _ _ _).mono ?_; rintro e w1 ⟨rfl, rfl⟩))
  go_ret
  exact ⟨rfl, (Below.refl _ _).alloc (Nat.le_refl _) _⟩

theorem place_fx {o : List Fx} {n : ByteArray} {c : Nat} {F : Bool} (P : Place (o.map Fx.fld) n c F) (k : Nat) (h : k < o.length) : ((Lib.compareBytes (o[k]).name.data.toList n.data.toList < 0) ↔ k < c) := by
  have := P.lt k (by rw [List.length_map]; exact h)
  rw [List.getElem_map] at this
  rw [← this]
  show _ ↔ ltB (o[k]).name n = true
  unfold ltB
  rw [decide_eq_true_iff]

theorem place_eq {o : List Fx} {n : ByteArray} {c : Nat} {F : Bool} (P : Place (o.map Fx.fld) n c F) (h : c < o.length) : (Lib.compareBytes (o[c]).name.data.toList n.data.toList == 0) = F := by
  have hc : c < (o.map Fx.fld).length := by rw [List.length_map]; exact h
  have e : ((o.map Fx.fld)[c]).1 = (o[c]).name := by rw [List.getElem_map]; rfl
  cases F with
  | true =>
    obtain ⟨_, h2⟩ := P.here rfl
    rw [e] at h2
    rw [h2, cb_self]
    rfl
  | false =>
    have h2 := P.no rfl hc
    rw [e] at h2
    rw [beq_eq_false_iff_ne]
    exact fun h3 => h2 (ba_eq ((cb_zero _ _).1 h3))

theorem place_end {o : List Fx} {n : ByteArray} {c : Nat} {F : Bool} (P : Place (o.map Fx.fld) n c F) (h : ¬ c < o.length) : F = false := by
  cases F with
  | true =>
    obtain ⟨h1, _⟩ := P.here rfl
    rw [List.length_map] at h1
    exact absurd h1 h
  | false => rfl

set_option maxHeartbeats 4000000 in
set_option maxRecDepth 100000 in
theorem bsx_any (v : Value) (o : List Fx) (n : ByteArray) (c : Nat) (F : Bool) (w : World) (hv : IsXs w v o) (hP : Place (o.map Fx.fld) n c F) (hl : o.length ≤ 1000000) :
    Calls Tryz.prog 88 #[v, .string n, .func (.func 89) #[] #[]] w fun e w' => e = .returned (.tuple #[.int .i64 (c : Nat), .bool F]) ∧ Below w.heap.size w w' := by
  have eg := enters_against
  obtain ⟨p, cap, rfl, hd, _⟩ := hv
  have HD := hid hd
  have HR := hid (place_fx hP)
  have HE := hid (fun h => place_eq hP h)
  have HN := hid (fun h => place_end hP h)
  have hcl : c ≤ o.length := by have := hP.le; rwa [List.length_map] at this
  clear hd hP
  go_enter Tryz.func88, Tryz.ntmps88
  go_wp2_with fail
  go_loopg [9, 10] o.length (fun kx s9 s10 wr => ∃ lo hi : Nat, s9 = .int .i64 lo ∧ s10 = .int .i64 hi ∧ lo ≤ c ∧ c ≤ hi ∧ hi ≤ o.length ∧ hi - lo ≤ kx ∧ Hid (Below w.heap.size w wr))
  case atStart => exact ⟨0, o.length, rfl, rfl, Nat.zero_le _, hcl, Nat.le_refl _, by omega, Below.refl _ _⟩
  case round =>
    obtain ⟨lo, hi, rfl, rfl, hlc, hch, hhd, hg, HB⟩ := hrel
    by_cases hlt : lo < hi
    · have hk : (lo + hi) / 2 < o.length := by omega
      obtain ⟨b1, o1, rfl, k1⟩ : ∃ b off, p = some ⟨b, off, none⟩ ∧ XsAt w b off o := by
        rcases HD.out with h | h
        · rw [h] at hk; simp at hk
        · exact h
      obtain ⟨y0, y1⟩ := k1.kept HB.out ((lo + hi) / 2) hk
      have hiff := HR.out ((lo + hi) / 2) hk
      have hsz := HB.out.size
      generalize o[(lo + hi) / 2] = x at *
      have hcall := against_any x.name n x.sl wr
      obtain ⟨xn, xp, xc, xt⟩ := x
      simp only [Fx.sl] at y0 y1 hiff hcall
      have HCALL := hid hcall
      clear k1 hcall
      generalize Lib.compareBytes xn.data.toList n.data.toList = cmp at *
      by_cases hs : cmp < 0
      · have hkc := hiff.1 hs
        clear hiff
        go_wp2_with (go_at_fn 89; refine HCALL.out.mono ?_; rintro e w1 ⟨rfl, hq⟩)
        have HB1 := hid (bel_then HB.out hsz hq)
        go_roundg (hi - ((lo + hi) / 2 + 1))
        case measure => omega
        exact ⟨(lo + hi) / 2 + 1, hi, by rw [show ((lo : Int) + (hi : Int)) / 2 + 1 = (((lo + hi) / 2 + 1 : Nat) : Int) by omega], rfl, by omega, hch, hhd, by omega, HB1.out⟩
      · have hkc : ¬ (lo + hi) / 2 < c := fun h => hs (hiff.2 h)
        clear hiff
        go_wp2_with (go_at_fn 89; refine HCALL.out.mono ?_; rintro e w1 ⟨rfl, hq⟩)
        have HB1 := hid (bel_then HB.out hsz hq)
        go_roundg ((lo + hi) / 2 - lo)
        case measure => omega
        exact ⟨lo, (lo + hi) / 2, rfl, by rw [show ((lo : Int) + (hi : Int)) / 2 = (((lo + hi) / 2 : Nat) : Int) by omega], hlc, by omega, by omega, by omega, HB1.out⟩
    · obtain rfl : lo = c := by omega
      obtain rfl : hi = lo := by omega
      by_cases hn : hi < o.length
      · obtain ⟨b1, o1, rfl, k1⟩ : ∃ b off, p = some ⟨b, off, none⟩ ∧ XsAt w b off o := by
          rcases HD.out with h | h
          · rw [h] at hn; simp at hn
          · exact h
        obtain ⟨y0, y1⟩ := k1.kept HB.out hi hn
        have heq := HE.out hn
        have hsz := HB.out.size
        generalize o[hi] = x at *
        have hcall := against_any x.name n x.sl wr
        obtain ⟨xn, xp, xc, xt⟩ := x
        simp only [Fx.sl] at y0 y1 heq hcall
        have HCALL := hid hcall
        clear k1 hcall
        generalize Lib.compareBytes xn.data.toList n.data.toList = cmp at *
        go_wp2_with (go_at_fn 89; refine HCALL.out.mono ?_; rintro e w1 ⟨rfl, hq⟩)
        have HB1 := hid (bel_then HB.out hsz hq)
        go_ret2
        exact ⟨rfl, HB1.out⟩
      · have hF := HN.out hn
        subst hF
        go_wp2_with fail
        go_ret2
        exact ⟨rfl, HB.out⟩

end Go.Proofs.YtelcongbnmfegaaGreatDoor

/-
  The contract of slices.Delete at fields, one of them taken out.
-/
namespace Go.Proofs.YtelcongbnmfegaaGreatDoor
open Go.RowKit Go.Lib

/-- append in a region that draws its order, where its run is known. -/
theorem step_append_run {P : Program} {ops : Array Oper} {o : Oper} {a : Act} {w : World} {K : Act → World → Prop} {Q : Exit → Act → World → Prop} {E : Prop}
    (hg : o.guard = none) (s x : Operand) (t t' : TypeId) (hop : o.op = Op.call { callee := Callee.builtin Builtin.append, args := #[s, x], argTypes := #[t, t'] })
    (v u : Value) (hs : a.eval s = v) (hx : a.eval x = u) {v' : Value} {w' : World} (hr : (Builtin.append_ #[t, t'] o.type #[v, u]).run P w = .ok v' w') (hK : K (a.put o.dst v') w') :
    if Region.wanted o (yielded ops a.tmps) = true then Oper.wp P o a w K Q else E := by
  have hw : Region.wanted o (yielded ops a.tmps) = true := by simp [Region.wanted, hg]
  rw [if_pos hw]
  unfold Oper.wp
  simp [execOp, hop, resolve, invoke, builtin, hs, hx, hr, Result.andThen]
  exact hK

/-- The cells of a field in a row. -/
theorem rowX_cell {N g n cap : Nat} {w : World} {o : List Fx} (h : RowX N w (.slice (some ⟨g, 0, none⟩) n cap) o) (j : Nat) (u : Value) (hu : (cellsX o)[j]? = some u) : w.cell? ⟨g, j, none⟩ = some u := by
  obtain ⟨hn, _, _, _, cur, hg, hs, ht⟩ := rowX_block h
  have hj : j < n * 2 := by
    have := (List.getElem?_eq_some_iff.1 hu).1
    rwa [cellsX_len, hn] at this
  rw [cell_of_row w g j cur _ _ hg, ← Array.getElem?_toList]
  rw [← ht, List.getElem?_take, if_pos hj] at hu
  exact hu

theorem rowX_drew {N g n cap : Nat} {w : World} {o : List Fx} (h : RowX N w (.slice (some ⟨g, 0, none⟩) n cap) o) : RowX N w.drew (.slice (some ⟨g, 0, none⟩) n cap) o := h

set_option maxHeartbeats 4000000 in
set_option maxRecDepth 100000 in
theorem delX_any (N g n cap i : Nat) (o : List Fx) (w : World) (h : RowX N w (.slice (some ⟨g, 0, none⟩) n cap) o) (hi : i < n) :
    Calls Tryz.prog 90 #[.slice (some ⟨g, 0, none⟩) n cap, .int .i64 i, .int .i64 ((i : Int) + 1)] w fun e w' =>
      e = .returned (.slice (some ⟨g, 0, none⟩) (n - 1) cap) ∧ RowX N w' (.slice (some ⟨g, 0, none⟩) (n - 1) cap) (o.eraseIdx i) ∧ w.grownBy w' (some g) := by
  obtain ⟨i0, hi0, hz0, hz1, hz2⟩ := info_parts Tryz.infoFld
  obtain ⟨hn, hNg, hnc, hcm, cur, hg, hs, ht⟩ := rowX_block h
  have hnl : (cellsX (o.drop (i + 1))).length = (n - (i + 1)) * i0.size := by rw [cellsX_len, List.length_drop, hn, hz1]
  obtain ⟨news, hnews⟩ : ∃ news, cellsX (o.drop (i + 1)) = news := ⟨_, rfl⟩
  have hsrc : ∀ j u, news[j]? = some u → w.drew.cell? ((⟨g, (i + 1) * 2, none⟩ : Addr).add j) = some u := fun j u hu => by
    rw [addr_add]
    rw [← hnews, cellsX_drop, List.getElem?_drop] at hu
    exact rowX_cell (rowX_drew h) _ u hu
  have hones : ∀ u ∈ news, u.oneCell' = true := by rw [← hnews]; exact cellsX_ones _
  have hrd := rowX_del (w := w.drew) hn hi hNg hg hnc hcm hs ht
  rw [hnews] at hnl hrd
  have hrun : ∀ (A : Addr) (c : Nat) (ty : TypeId), (0 < n - (i + 1) → A = ⟨g, (i + 1) * 2, none⟩) → (Builtin.append_ #[22, 22] ty #[.slice (some ⟨g, 0, none⟩) i cap, .slice (some A) (n - (i + 1)) c]).run Tryz.prog w.drew =
      .ok (.slice (some ⟨g, 0, none⟩) (n - 1) cap) (w.drew.setRow g (cur.toList.take (i * 2) ++ news ++ cur.toList.drop (i * 2 + news.length)).toArray) := fun A c ty hA => by
    have hsrc' : ∀ j u, news[j]? = some u → w.drew.cell? (A.add j) = some u := fun j u hu => by
      have hj := (List.getElem?_eq_some_iff.1 hu).1
      rw [hnl] at hj
      have h0 : 0 < n - (i + 1) := Nat.pos_of_ne_zero fun e => by rw [e] at hj; simp at hj
      rw [hA h0]
      exact hsrc j u hu
    have := run_append_room (P := Tryz.prog) w.drew 22 ty 44 i0 Tryz.underlying22 hi0 g i cap cur hg A (n - (i + 1)) c news hnl hsrc' hones (by omega) (by rw [hnl, hz1, hs]; omega)
    rw [show i + (n - (i + 1)) = n - 1 by omega, hz1] at this
    exact this
  obtain ⟨W1, hW1⟩ : ∃ W1, w.drew.setRow g (cur.toList.take (i * 2) ++ news ++ cur.toList.drop (i * 2 + news.length)).toArray = W1 := ⟨_, rfl⟩
  rw [hW1] at hrun hrd
  have hg1 : w.grownBy W1 (some g) := by rw [← hW1]; exact grown_setRowD w g _
  obtain ⟨_, _, _, _, cur1, hgc1, hs1, _⟩ := rowX_block hrd
  obtain ⟨zs, hcl⟩ : ∃ zs : List Value, ∀ ty c, (Builtin.clear_ #[22] ty #[.slice (some ⟨g, (n - 1) * 2, none⟩) 1 c]).run Tryz.prog W1 = .ok (.tuple #[]) (W1.setCells g ((n - 1) * 2) zs) := by
    have hc : ∀ j, j < 1 * 2 → (W1.cell? ⟨g, (n - 1) * 2 + j, none⟩).isSome = true := fun j hj => by
      rw [cell_of_row W1 g _ cur1 _ _ hgc1, Array.getElem?_eq_getElem (by omega)]; rfl
    have hf : ∀ j, j < 1 * 2 → W1.frozen? ⟨g, (n - 1) * 2 + j, none⟩ = false := fun j hj => Lib.frozen_of_heap hgc1 _
    obtain ⟨zs, hz⟩ := run_clearX W1 0 g ((n - 1) * 2) 1 0 (by omega) hc hf
    exact ⟨zs, fun ty c => hz⟩
  have HRD := hid (rowX_past zs W1 ((n - 1) * 2) hrd (by rw [List.length_eraseIdx, if_pos (by omega), hn]) (Nat.le_refl _))
  have HG := hid (grown_setsX zs W1 w ((n - 1) * 2) hg1)
  have HRUN := hid hrun
  have mixed : Tryz.prog.follows .mixedOrders = true := by kernel_rfl
  obtain ⟨A, hA, HA2⟩ : ∃ A : Addr, (if cap = i + 1 then some (⟨g, 0, none⟩ : Addr) else some ⟨g, (i + 1) * 2, none⟩) = some A ∧ Hid (0 < n - (i + 1) → A = ⟨g, (i + 1) * 2, none⟩) := by
    by_cases hh : cap = i + 1
    · exact ⟨_, if_pos hh, fun h0 => absurd h0 (by omega)⟩
    · exact ⟨_, if_neg hh, fun _ => rfl⟩
  have hiz : (0 : Int) ≤ i := by omega
  have hiz1 : (0 : Int) ≤ (i : Int) + 1 := by omega
  have hin : (i : Int) + 1 ≤ (n : Int) := by omega
  have hic : (i : Int) ≤ (cap : Int) := by omega
  have hlt1 : (i : Int) ≤ (i : Int) + 1 := by omega
  have hnc' : (n : Int) ≤ (cap : Int) := by omega
  have htn : ((i : Int) + 1).toNat = i + 1 := by omega
  have hne : ((i : Int) == (i : Int) + 1) = false := by rw [beq_eq_false_iff_ne]; omega
  have hn1 : n - (n - 1) = 1 := by omega
  have hnz : ((n - 1 : Nat) : Int) ≤ (n : Int) := by omega
  have hnz0 : (0 : Int) ≤ ((n - 1 : Nat) : Int) := by omega
  have hcn1 : ¬ (cap = n - 1) := by omega
  clear hrun hrd hg1 hgc1 hs1 hsrc hones hnl hnews hW1 hg hs ht h hz0 hz2 hi0 hz1
  go_enter Tryz.func90, Tryz.ntmps90
  go_wp2_with fail
  go_region_law_o (refine step_append_run rfl (.tmp 22) (.tmp 25) 22 22 rfl (.slice (some ⟨g, 0, none⟩) i cap) (.slice (some A) (n - (i + 1)) (cap - (i + 1))) (by simp [Act.eval, Act.put]) (by simp [Act.eval, Act.put]) (HRUN.out A _ _ HA2.out) ?_)
  go_wp2_with fail
  go_ret
  exact ⟨rfl, HRD.out, HG.out⟩

end Go.Proofs.YtelcongbnmfegaaGreatDoor

/-
  The contract of slices.Insert at fields, one of them laid in.
-/
namespace Go.Proofs.YtelcongbnmfegaaGreatDoor
open Go.RowKit Go.Lib

theorem drop_len {X Y : List Value} {k : Nat} (h : X.length = k) : (X ++ Y).drop k = Y := by subst h; exact List.drop_left
theorem take_len {X Y : List Value} {k : Nat} (h : X.length = k) : (X ++ Y).take k = X := by subst h; exact List.take_left

/-- What a list is behind two segments laid over it, the first behind the second. -/
theorem seg_two (L cs e : List Value) (a : Nat) (he : e.length = 2) (hL : a + 2 + cs.length ≤ L.length) (L1 L2 : List Value)
    (h1 : L1 = L.take (a + 2) ++ cs ++ L.drop (a + 2 + cs.length)) (h2 : L2 = L1.take a ++ e ++ L1.drop (a + e.length)) :
    L2.length = L.length ∧ L2.take a = L.take a ∧ (L2.drop a).take 2 = e ∧ (L2.drop (a + 2)).take cs.length = cs := by
  have l1 : L1.length = L.length := by rw [h1]; simp; omega
  have t1 : L1.take a = L.take a := by
    rw [h1, List.append_assoc, List.take_append_of_le_length (by simp; omega), List.take_take]
    congr 1
    omega
  have d1 : L1.drop (a + 2) = cs ++ L.drop (a + 2 + cs.length) := by
    rw [h1, List.append_assoc]
    exact drop_len (by simp; omega)
  have la : (L1.take a).length = a := by rw [List.length_take]; omega
  have l2 : L2.length = L.length := by rw [h2]; simp; omega
  refine ⟨l2, ?_, ?_, ?_⟩
  · rw [h2, List.append_assoc, List.take_append_of_le_length (by omega), List.take_of_length_le (by omega), t1]
  · rw [h2, List.append_assoc, drop_len la]
    exact take_len he
  · rw [h2, he, d1]
    rw [drop_len (by rw [List.length_append, la, he])]
    exact take_len rfl

/-- .. and the second behind the first. -/
theorem seg_owt (L cs e : List Value) (a : Nat) (he : e.length = 2) (hL : a + 2 + cs.length ≤ L.length) (L1 L2 : List Value)
    (h1 : L1 = L.take a ++ e ++ L.drop (a + e.length)) (h2 : L2 = L1.take (a + 2) ++ cs ++ L1.drop (a + 2 + cs.length)) :
    L2.length = L.length ∧ L2.take a = L.take a ∧ (L2.drop a).take 2 = e ∧ (L2.drop (a + 2)).take cs.length = cs := by
  have la : (L.take a).length = a := by rw [List.length_take]; omega
  have l1 : L1.length = L.length := by rw [h1]; simp; omega
  have t1 : L1.take (a + 2) = L.take a ++ e := by
    rw [h1, List.take_append_of_le_length (by simp; omega), List.take_of_length_le (by simp; omega)]
  have l2 : L2.length = L.length := by rw [h2]; simp; omega
  refine ⟨l2, ?_, ?_, ?_⟩
  · rw [h2, t1, List.append_assoc, List.append_assoc, List.take_append_of_le_length (by omega), List.take_of_length_le (by omega)]
  · rw [h2, t1, List.append_assoc, List.append_assoc, drop_len la]
    exact take_len he
  · rw [h2, t1]
    rw [List.append_assoc, drop_len (by rw [List.length_append, la, he])]
    exact take_len rfl

theorem shape_of {w : World} {b : Nat} {cs : Array Value} {t : TypeId} (h : w.heap[b]? = some (.cells cs t (0, 0))) : w.shape? b = some (t, cs.size) := by
  unfold World.shape?
  rw [h]

theorem encX_len (x : Fx) : (encX x).length = 2 := rfl
theorem encX_ones (x : Fx) : ∀ u ∈ encX x, u.oneCell' = true := by
  intro u hu
  simp [encX, Fx.sl] at hu
  rcases hu with rfl | rfl <;> rfl

theorem box_cellsX {w : World} {b : Nat} {x : Fx} (h : w.heap[b]? = some (.cells (encX x).toArray 44 (0, 0))) : ∀ j u, (encX x)[j]? = some u → w.cell? ((⟨b, 0, none⟩ : Addr).add j) = some u := fun j u hu => by
  rw [addr_add, Nat.zero_add, cell_of_row w b j _ _ _ h]
  simpa using hu

/-- copy in a region that draws its order, where its run is known. -/
theorem step_copy_run {P : Program} {ops : Array Oper} {o : Oper} {a : Act} {w : World} {K : Act → World → Prop} {Q : Exit → Act → World → Prop} {E : Prop}
    (hg : o.guard = none) (d x : Operand) (dT sT : TypeId) (hop : o.op = Op.call { callee := Callee.builtin Builtin.copy, args := #[d, x], argTypes := #[dT, sT] })
    (v u : Value) (hd : a.eval d = v) (hx : a.eval x = u) {v' : Value} {w' : World} (hr : (Builtin.copy_ #[dT, sT] o.type #[v, u]).run P w = .ok v' w') (hK : K (a.put o.dst v') w') :
    if Region.wanted o (yielded ops a.tmps) = true then Oper.wp P o a w K Q else E := by
  have hw : Region.wanted o (yielded ops a.tmps) = true := by simp [Region.wanted, hg]
  rw [if_pos hw]
  unfold Oper.wp
  simp [execOp, hop, resolve, invoke, builtin, hd, hx, hr, Result.andThen]
  exact hK

theorem wpList_copy_run {P : Program} (w : World) {ops : Array Oper} {rest : List Oper} {o : Oper} {a : Act} {Q : Exit → Act → World → Prop} (hgd : o.guard = none) (d s : Operand) (t t' : TypeId)
    (ho : o.op = .call { callee := .builtin .copy, args := #[d, s], argTypes := #[t, t'] }) (v u : Value) (hd : a.eval d = v) (hs : a.eval s = u) {v' : Value} {w' : World}
    (hr : (Builtin.copy_ #[t, t'] o.type #[v, u]).run P w = .ok v' w') (h : wpList P ops Q rest (a.put o.dst v') w') : wpList P ops Q (o :: rest) a w :=
  wpList_plain hgd fun K hK => by
    unfold Oper.wp
    simp [execOp, ho, resolve, invoke, builtin, hd, hs, hr, Result.andThen]
    exact hK _ _ h

def InsPost (N : Nat) (w : World) (v : Value) (o : List Fx) (i : Nat) (x : Fx) (e : Ending) (w' : World) : Prop :=
  ∃ u, e = .returned u ∧ RowX N w' u (o.take i ++ x :: o.drop i) ∧ w.grownBy w' v.ownBlock

set_option maxHeartbeats 4000000 in
set_option maxRecDepth 100000 in
/-- At the end. -/
theorem insX_end (N : Nat) (v : Value) (o : List Fx) (x : Fx) (b : Nat) (w : World) (hv : RowX N w v o) (hl : o.length ≤ 1000000) (hx : w.heap[b]? = some (.cells (encX x).toArray 44 (0, 0))) (hN : N ≤ w.heap.size) :
    Calls Tryz.prog 91 #[v, .int .i64 (o.length : Nat), .slice (some ⟨b, 0, none⟩) 1 1] w fun e w' => InsPost N w v o o.length x e w' := by
  obtain ⟨i0, hi0, hz0, hz1, hz2⟩ := info_parts Tryz.infoFld
  have HI := hid hi0
  have HC := hid (box_cellsX hx)
  have HV := hid hv
  obtain ⟨p, cap, hvv, hcap, hnil⟩ : ∃ p cap, v = .slice p o.length cap ∧ o.length ≤ cap ∧ (p = none → cap = 0) := by
    rcases hv.2 with ⟨h1, h2⟩ | ⟨g, cap, cur, h1, _, _, h4, _⟩
    · exact ⟨none, 0, by rw [h1, h2], by omega, fun _ => rfl⟩
    · exact ⟨_, cap, h1, h4, fun h => by cases h⟩
  subst hvv
  have hz : (0 : Int) ≤ (o.length : Int) := by omega
  have HT : Hid (o.take o.length ++ x :: o.drop o.length = o ++ [x]) := by show _ = _; simp
  obtain ⟨n, hn⟩ : ∃ n, o.length = n := ⟨_, rfl⟩
  have HL : Hid (RowX N w (.slice p n cap) o) := by rw [← hn]; exact hv
  have HN2 := hid hn
  have HCE : Hid (∀ (v' : Value) (w' : World), w'.ownsRow N 44 2 v' (n + 1) (cellsX o ++ encX x) → RowX N w' v' (o.take n ++ x :: o.drop n)) := fun v' w' h => by
    have e : cellsX (o ++ [x]) = cellsX o ++ encX x := by rw [cellsX_append]; simp [cellsX]
    rw [← hn, HT.out]
    unfold RowX
    rw [e, List.length_append, hn]
    exact h
  have HLO : Hid (w.ownsRow N 44 2 (.slice p n cap) n (cellsX o)) := by have := HL.out; unfold RowX at this; rw [hn] at this; exact this
  rw [hn] at hl hcap hz ⊢
  clear hv hx hi0 hn HV HT
  cases p with
  | none =>
    obtain rfl := hnil rfl
    obtain rfl : n = 0 := by omega
    go_enter Tryz.func91, Tryz.ntmps91
    go_wp2_with (at_builtin; refine wpList_append_own _ rfl _ _ 22 rfl N 44 i0 (.agg #[.string ⟨#[]⟩, .slice none 0 0]) 2 40 Tryz.underlying22 HI.out hz0 hz1 hz2 rfl (by decide) _ _ _ rfl HLO.out _ 1 1 (encX x) rfl rfl HC.out (encX_ones x) (by unfold maxLen; omega) (by omega) hN ?_; intro v4 w4 hown4 hg4 hnil4; have HO4 := hid hown4; have HG4 := hid hg4; clear hown4 hg4 hnil4)
    go_ret
    exact ⟨_, rfl, HCE.out _ _ HO4.out, HG4.out⟩
  | some ad =>
    have hzc : ((n : Nat) : Int) ≤ (cap : Int) := by omega
    clear hnil
    go_enter Tryz.func91, Tryz.ntmps91
    go_wp2_with (at_builtin; refine wpList_append_own _ rfl _ _ 22 rfl N 44 i0 (.agg #[.string ⟨#[]⟩, .slice none 0 0]) 2 40 Tryz.underlying22 HI.out hz0 hz1 hz2 rfl (by decide) _ _ _ rfl HLO.out _ 1 1 (encX x) rfl rfl HC.out (encX_ones x) (by unfold maxLen; omega) (by omega) hN ?_; intro v4 w4 hown4 hg4 hnil4; have HO4 := hid hown4; have HG4 := hid hg4; clear hown4 hg4 hnil4)
    all_goals
      go_ret
      exact ⟨_, rfl, HCE.out _ _ HO4.out, HG4.out⟩

end Go.Proofs.YtelcongbnmfegaaGreatDoor

/-
  The contract of slices.Insert at fields, ahead of the end: where there is room, and where there is none.
-/
namespace Go.Proofs.YtelcongbnmfegaaGreatDoor
open Go.RowKit Go.Lib

set_option maxHeartbeats 4000000 in
set_option maxRecDepth 100000 in
/-- Ahead of the end, in place. -/
theorem insX_room (N g n cap i : Nat) (o : List Fx) (x : Fx) (b : Nat) (w : World) (h : RowX N w (.slice (some ⟨g, 0, none⟩) n cap) o) (hi : i < n) (hc : n + 1 ≤ cap) (hm : n ≤ 1000000)
    (hx : w.heap[b]? = some (.cells (encX x).toArray 44 (0, 0))) (hb : b ≠ g) :
    Calls Tryz.prog 91 #[.slice (some ⟨g, 0, none⟩) n cap, .int .i64 i, .slice (some ⟨b, 0, none⟩) 1 1] w fun e w' => InsPost N w (.slice (some ⟨g, 0, none⟩) n cap) o i x e w' := by
  obtain ⟨i0, hi0, hz0, hz1, hz2⟩ := info_parts Tryz.infoFld
  obtain ⟨hn, hNg, hnc, hcm, cur, hg, hs, ht⟩ := rowX_block h
  obtain ⟨cs, hcs⟩ : ∃ cs, cellsX (o.drop i) = cs := ⟨_, rfl⟩
  have hcl : cs.length = (n - i) * 2 := by rw [← hcs, cellsX_len, List.length_drop, hn]
  have hcur : cur.toList.length = cap * 2 := by rw [Array.length_toList, hs]
  obtain ⟨L1, hL1⟩ : ∃ L1, L1 = cur.toList.take (i * 2 + 2) ++ cs ++ cur.toList.drop (i * 2 + 2 + cs.length) := ⟨_, rfl⟩
  obtain ⟨L2, hL2⟩ : ∃ L2, L2 = L1.take (i * 2) ++ encX x ++ L1.drop (i * 2 + (encX x).length) := ⟨_, rfl⟩
  obtain ⟨q1, q2, q3, q4⟩ := seg_two cur.toList cs (encX x) (i * 2) rfl (by rw [hcl, hcur]; omega) L1 L2 hL1 hL2
  have hl1 : L1.length = cap * 2 := by rw [hL1]; simp only [List.length_append, List.length_take, List.length_drop, hcur, hcl]; omega
  obtain ⟨W1, hW1⟩ : ∃ W1, w.drew.setRow g L1.toArray = W1 := ⟨_, rfl⟩
  have hg1 : W1.heap[g]? = some (.cells L1.toArray 44 (0, 0)) := by rw [← hW1]; exact setRow_heap w.drew g cur _ _ _ hg
  have hx1 : W1.heap[b]? = some (.cells (encX x).toArray 44 (0, 0)) := by rw [← hW1, setRow_other w.drew g b _ hb]; exact hx
  have hr1 : ∀ (ty : TypeId) (dc sc sl : Nat), n - i ≤ sl → (Builtin.copy_ #[22, 22] ty #[.slice (some ⟨g, (i + 1) * 2, none⟩) (n - i) dc, .slice (some ⟨g, i * 2, none⟩) sl sc]).run Tryz.prog w.drew = .ok (goInt ((n - i : Nat) : Int)) W1 := fun ty dc sc sl hsl => by
    have := run_copyK (P := Tryz.prog) w.drew 22 22 ty 44 i0 Tryz.underlying22 hi0 g ((i + 1) * 2) (n - i) dc ⟨g, i * 2, none⟩ sl sc cur 44 cs hg (n - i) (Nat.min_eq_right hsl) (by rw [hcl, hz1])
      (fun j u hu => by
        rw [addr_add]
        rw [← hcs, cellsX_drop, List.getElem?_drop] at hu
        exact rowX_cell (rowX_drew h) _ u hu)
      (by rw [hcl, hs]; omega) (by rw [← hcs]; exact cellsX_ones _)
    rw [this, show (i + 1) * 2 = i * 2 + 2 by omega, ← hL1, hW1]
  obtain ⟨W2, hW2⟩ : ∃ W2, W1.setRow g L2.toArray = W2 := ⟨_, rfl⟩
  have hr2 : ∀ (ty : TypeId) (dc dl : Nat), 1 ≤ dl → (Builtin.copy_ #[22, 22] ty #[.slice (some ⟨g, i * 2, none⟩) dl dc, .slice (some ⟨b, 0, none⟩) 1 1]).run Tryz.prog W1 = .ok (goInt ((1 : Nat) : Int)) W2 := fun ty dc dl hdl => by
    have := run_copyK (P := Tryz.prog) W1 22 22 ty 44 i0 Tryz.underlying22 hi0 g (i * 2) dl dc ⟨b, 0, none⟩ 1 1 L1.toArray 44 (encX x) hg1 1 (Nat.min_eq_left hdl) (by rw [hz1]; rfl)
      (box_cellsX hx1) (by rw [List.size_toArray, hl1, encX_len]; omega) (encX_ones x)
    rw [this]
    show _ = Result.ok _ _
    rw [← hL2, hW2]
  have hg2 : W2.heap[g]? = some (.cells L2.toArray 44 (0, 0)) := by rw [← hW2]; exact setRow_heap W1 g _ _ _ _ hg1
  have HROW : Hid (RowX N W2 (.slice (some ⟨g, 0, none⟩) (n + 1) cap) (o.take i ++ x :: o.drop i)) := by
    refine rowX_ins hn (by omega) hNg hg2 hc hcm (by rw [List.size_toArray, q1, hcur]) ?_ q3 ?_
    · show L2.take _ = _
      rw [q2, cellsX_take, ← ht, List.take_take]
      congr 1
      omega
    · show (L2.drop _).take _ = _
      rw [show (i + 1) * 2 = i * 2 + 2 by omega, ← hcl, q4, hcs]
  have HG : Hid (w.grownBy W2 (some g)) := by
    show World.grownBy _ _ _
    rw [← hW2, ← hW1]
    exact grown_trans (grown_setRowD w g L1.toArray) (grown_setRow _ g L2.toArray)
  have hov : ∀ lb cb, (callFunc 117 #[.slice (some ⟨b, 0, none⟩) 1 1, .slice (some ⟨g, (i + 1) * 2, none⟩) lb cb]).run Tryz.prog w = .ok (.value (.bool false)) w := fun lb cb => by
    rw [run_callFunc_extern Tryz.func117 (by kernel_rfl) (by kernel_rfl) (by kernel_rfl) (e := Extern.SlicesOverlaps.overlaps #[22, 22] #[4]) (by kernel_rfl),
      Lib.run_overlaps_apart w 22 4 44 Tryz.underlying22 2 Tryz.sizeOf44 ⟨b, 0, none⟩ ⟨g, (i + 1) * 2, none⟩ 1 1 lb cb hb _ _ _ _ (shape_of hx) (shape_of hg) (by rw [hs]; omega) (Lib.frozen_of_heap hx 0) (Lib.frozen_of_heap hx _)]
    rfl
  have mixed : Tryz.prog.follows .mixedOrders = true := by kernel_rfl
  have HR1 := hid hr1
  have hcp : ∀ ty, (Builtin.copy_ #[22, 22] ty #[.slice (some ⟨g, i * 2, none⟩) (n + 1 - i) (cap - i), .slice (some ⟨b, 0, none⟩) 1 1]).run Tryz.prog W1 = .ok (goInt ((1 : Nat) : Int)) W2 := fun ty => hr2 ty _ _ (by omega)
  have hiz : (0 : Int) ≤ i := by omega
  have hin : (i : Int) ≤ (n : Int) := by omega
  have hne : ((i : Int) == (n : Int)) = false := by rw [beq_eq_false_iff_ne]; omega
  have hw1 : IntKind.i64.wrap ((n : Int) + 1) = (n : Int) + 1 := by rw [IntKind.wrap_i64]; omega
  have hw2 : IntKind.i64.wrap ((i : Int) + 1) = (i : Int) + 1 := by rw [IntKind.wrap_i64]; omega
  have hgt : ¬ ((cap : Int) < (n : Int) + 1) := by omega
  have hle : (n : Int) + 1 ≤ (cap : Int) := by omega
  have hnz : (0 : Int) ≤ (n : Int) + 1 := by omega
  have htn : ((n : Int) + 1).toNat = n + 1 := by omega
  have hti : ((i : Int) + 1).toNat = i + 1 := by omega
  have hiz1 : (0 : Int) ≤ (i : Int) + 1 := by omega
  have hin1 : (i : Int) + 1 ≤ (n : Int) + 1 := by omega
  have hin2 : (i : Int) ≤ (n : Int) + 1 := by omega
  have hci : ¬ (cap = i) := by omega
  have hci1 : ¬ (cap = i + 1) := by omega
  have hsub : n + 1 - (i + 1) = n - i := by omega
  clear hr1 hr2 hg1 hg2 hx1 hx hg ht hs h q1 q2 q3 q4 hL1 hL2 hW1 hW2 hcs hcl hcur hl1 hi0 hz0 hz1 hz2
  go_enter Tryz.func91, Tryz.ntmps91
  go_wp2_with (simp only [hov])
  go_region_law_o (refine step_copy_run rfl _ _ 22 22 rfl (.slice (some ⟨g, (i + 1) * 2, none⟩) (n - i) (cap - (i + 1))) (.slice (some ⟨g, i * 2, none⟩) (n + 1 - i) (cap - i)) (by simp [Act.eval, Act.put]) (by simp [Act.eval, Act.put]) (HR1.out _ _ _ _ (by omega)) ?_)
  go_wp2_with fail
  go_ret
  exact ⟨_, rfl, HROW.out, HG.out⟩

set_option maxHeartbeats 4000000 in
set_option maxRecDepth 100000 in
/-- Ahead of the end, without room: a new row. -/
theorem insX_grow (N g n cap i : Nat) (o : List Fx) (x : Fx) (b : Nat) (w : World) (h : RowX N w (.slice (some ⟨g, 0, none⟩) n cap) o) (hi : i < n) (hc : cap < n + 1) (hm : n ≤ 1000000) (hN : N ≤ w.heap.size)
    (hx : w.heap[b]? = some (.cells (encX x).toArray 44 (0, 0))) :
    Calls Tryz.prog 91 #[.slice (some ⟨g, 0, none⟩) n cap, .int .i64 i, .slice (some ⟨b, 0, none⟩) 1 1] w fun e w' => InsPost N w (.slice (some ⟨g, 0, none⟩) n cap) o i x e w' := by
  obtain ⟨i0, hi0, hz0, hz1, hz2⟩ := info_parts Tryz.infoFld
  obtain ⟨hn, hNg, hnc, hcm, cur, hg, hs, ht⟩ := rowX_block h
  have hglt : g < w.heap.size := (Array.getElem?_eq_some_iff.1 hg).1
  have hblt : b < w.heap.size := (Array.getElem?_eq_some_iff.1 hx).1
  obtain ⟨cs, hcs⟩ : ∃ cs, cellsX (o.drop i) = cs := ⟨_, rfl⟩
  have hcl : cs.length = (n - i) * 2 := by rw [← hcs, cellsX_len, List.length_drop, hn]
  have hold : (Builtin.firstCells i0.size i (.slice (some ⟨g, 0, none⟩) i cap)).run Tryz.prog w.drew = .ok (cellsX (o.take i)).toArray w.drew :=
    run_firstCells_some w.drew i0.size i ⟨g, 0, none⟩ i cap (cellsX (o.take i)) (by rw [cellsX_len, hz1, List.length_take]; omega) (fun j u hu => by
      rw [addr_add, Nat.zero_add]
      refine rowX_cell (rowX_drew h) j u ?_
      rw [cellsX_take] at hu
      have hj := (List.getElem?_eq_some_iff.1 hu).1
      rw [List.length_take] at hj
      rwa [List.getElem?_take, if_pos (by omega)] at hu)
  have hik : i + (n + 1 - i) = n + 1 := by omega
  have hza : ∀ ty, (Builtin.append_ #[22, 3] ty #[.slice (some ⟨g, 0, none⟩) i cap, .int .i64 ((n + 1 - i : Nat) : Int)]).run Tryz.prog w = _ := fun ty =>
    Lib.run_append_grow_zeros w 22 3 ty 44 i0 _ .i64 .i64 Tryz.underlying22 Tryz.underlying3 hi0 hz0 (some ⟨g, 0, none⟩) i cap (cellsX (o.take i)) hold (n + 1 - i) (by omega) (by rw [hz1]; decide) (by omega) (by omega) (by rw [hz2]; omega) (by rw [hz2, hik]; exact growslice_fits hc (by omega))
  rw [hik] at hza
  obtain ⟨G, hG⟩ : ∃ G, grownCap w (n + 1) cap 44 = G := ⟨_, rfl⟩
  have hGn : n + 1 ≤ G := by rw [← hG]; exact grownCap_ge w _ _ _
  have hGm : G ≤ maxLen := by rw [← hG]; exact grownCap_le_maxLen w (n + 1) cap 44 (by unfold maxLen; omega)
  rw [hG] at hza
  obtain ⟨Z1, hZ1⟩ : ∃ Z1, Builtin.zeroCells (Value.agg #[.string ⟨#[]⟩, .slice none 0 0]).cells (n + 1 - i) = Z1 := ⟨_, rfl⟩
  obtain ⟨Z2, hZ2⟩ : ∃ Z2, Builtin.zeroCells (Value.agg #[.string ⟨#[]⟩, .slice none 0 0]).cells (G - (n + 1)) = Z2 := ⟨_, rfl⟩
  have hZ1s : Z1.size = (n + 1 - i) * 2 := by rw [← hZ1, size_zeroCells]; rfl
  have hZ2s : Z2.size = (G - (n + 1)) * 2 := by rw [← hZ2, size_zeroCells]; rfl
  rw [hZ1, hZ2] at hza
  obtain ⟨L0, hL0⟩ : ∃ L0, (cellsX (o.take i)).toArray ++ Z1 ++ Z2 = L0 := ⟨_, rfl⟩
  rw [hL0] at hza
  have hct : (cellsX (o.take i)).length = i * 2 := by rw [cellsX_len, List.length_take]; omega
  have hL0s : L0.size = G * 2 := by rw [← hL0, Array.size_append, Array.size_append, hZ1s, hZ2s, List.size_toArray, hct]; omega
  have hL0t : L0.toList.take (i * 2) = cellsX (o.take i) := by
    rw [← hL0, Array.toList_append, Array.toList_append, List.append_assoc]
    show List.take _ (cellsX (o.take i) ++ _) = _
    rw [← hct, List.take_left]
  obtain ⟨H, hH⟩ : ∃ H, w.heap.size = H := ⟨_, rfl⟩
  obtain ⟨W0, hW0⟩ : ∃ W0, w.drew.alloc (.cells L0 44) = W0 := ⟨_, rfl⟩
  rw [hW0, hH] at hza
  have hg0 : W0.heap[H]? = some (.cells L0 44 (0, 0)) := by rw [← hW0, ← hH]; exact heap_alloc_new w.drew _
  have hk0 : ∀ k, k < H → W0.heap[k]? = w.heap[k]? := fun k hk => by rw [← hW0]; exact Below.heap_alloc w.drew _ k (by rw [← hH] at hk; exact hk)
  have hgr0 : w.grownBy W0 (some g) := by
    rw [← hW0]
    exact ⟨rfl, rfl, rfl, by simp, fun k hk _ => Below.heap_alloc w.drew _ k hk⟩
  obtain ⟨L1, hL1⟩ : ∃ L1, L1 = L0.toList.take (i * 2) ++ encX x ++ L0.toList.drop (i * 2 + (encX x).length) := ⟨_, rfl⟩
  obtain ⟨L2, hL2⟩ : ∃ L2, L2 = L1.take (i * 2 + 2) ++ cs ++ L1.drop (i * 2 + 2 + cs.length) := ⟨_, rfl⟩
  obtain ⟨q1, q2, q3, q4⟩ := seg_owt L0.toList cs (encX x) (i * 2) rfl (by rw [hcl, Array.length_toList, hL0s]; omega) L1 L2 hL1 hL2
  have hl1 : L1.length = G * 2 := by rw [hL1]; simp only [List.length_append, List.length_take, List.length_drop, Array.length_toList, hL0s, encX_len]; omega
  have hr1 : ∀ (ty : TypeId) (dc dl : Nat), 1 ≤ dl → (Builtin.copy_ #[22, 22] ty #[.slice (some ⟨H, i * 2, none⟩) dl dc, .slice (some ⟨b, 0, none⟩) 1 1]).run Tryz.prog W0 = .ok (goInt ((1 : Nat) : Int)) (W0.setRow H L1.toArray) := fun ty dc dl hdl => by
    have := run_copyK (P := Tryz.prog) W0 22 22 ty 44 i0 Tryz.underlying22 hi0 H (i * 2) dl dc ⟨b, 0, none⟩ 1 1 L0 44 (encX x) hg0 1 (Nat.min_eq_left hdl) (by rw [hz1]; rfl)
      (box_cellsX (show W0.heap[b]? = _ from (hk0 b (by rw [← hH]; exact hblt)).trans hx)) (by rw [hL0s, encX_len]; omega) (encX_ones x)
    rw [this, ← hL1]
  have hg1 : (W0.setRow H L1.toArray).heap[H]? = some (.cells L1.toArray 44 (0, 0)) := setRow_heap W0 H _ _ _ _ hg0
  have hr2 : ∀ (ty : TypeId) (dc sc dl : Nat), n - i ≤ dl → (Builtin.copy_ #[22, 22] ty #[.slice (some ⟨H, (i + 1) * 2, none⟩) dl dc, .slice (some ⟨g, i * 2, none⟩) (n - i) sc]).run Tryz.prog (W0.setRow H L1.toArray).drew = .ok (goInt ((n - i : Nat) : Int)) ((W0.setRow H L1.toArray).drew.setRow H L2.toArray) := fun ty dc sc dl hdl => by
    have := run_copyK (P := Tryz.prog) (W0.setRow H L1.toArray).drew 22 22 ty 44 i0 Tryz.underlying22 hi0 H ((i + 1) * 2) dl dc ⟨g, i * 2, none⟩ (n - i) sc L1.toArray 44 cs hg1 (n - i) (Nat.min_eq_left hdl) (by rw [hcl, hz1])
      (fun j u hu => by
        rw [addr_add]
        rw [← hcs, cellsX_drop, List.getElem?_drop] at hu
        have h1 := rowX_cell h _ u hu
        have h2 : (W0.setRow H L1.toArray).drew.heap[g]? = w.heap[g]? := (setRow_other W0 H g _ (by omega)).trans (hk0 g (by rw [← hH]; exact hglt))
        rw [World.cell?_of_block (a := ⟨g, i * 2 + j, none⟩) h2]
        exact h1)
      (by rw [List.size_toArray, hl1, hcl]; omega) (by rw [← hcs]; exact cellsX_ones _)
    rw [this, show (i + 1) * 2 = i * 2 + 2 by omega]
    show _ = Result.ok _ _
    rw [← hL2]
  have HROW : Hid (RowX N ((W0.setRow H L1.toArray).drew.setRow H L2.toArray) (.slice (some ⟨H, 0, none⟩) (n + 1) G) (o.take i ++ x :: o.drop i)) := by
    refine rowX_ins hn (by omega) (by rw [← hH]; exact hN) (setRow_heap _ H _ _ _ _ hg1) hGn hGm (by rw [List.size_toArray, q1, Array.length_toList, hL0s]) ?_ q3 ?_
    · show L2.take _ = _
      rw [q2, hL0t]
    · show (L2.drop _).take _ = _
      rw [show (i + 1) * 2 = i * 2 + 2 by omega, ← hcl, q4, hcs]
  have HG : Hid (w.grownBy ((W0.setRow H L1.toArray).drew.setRow H L2.toArray) (some g)) := by
    refine ⟨hgr0.os, hgr0.tape, hgr0.output, ?_, fun k hk hne => ?_⟩
    · simpa [World.setRow] using hgr0.size
    · exact (setRow_other _ H k _ (by omega)).trans ((setRow_other _ H k _ (by omega)).trans (hk0 k (by omega)))
  have mixed : Tryz.prog.follows .mixedOrders = true := by kernel_rfl
  have hcp : ∀ ty, (Builtin.copy_ #[22, 22] ty #[.slice (some ⟨H, i * 2, none⟩) (n + 1 - i) (G - i), .slice (some ⟨b, 0, none⟩) 1 1]).run Tryz.prog W0 = .ok (goInt ((1 : Nat) : Int)) (W0.setRow H L1.toArray) := fun ty => hr1 ty _ _ (by omega)
  have HR2 := hid hr2
  have HZA := hid hza
  have hiz : (0 : Int) ≤ i := by omega
  have hin : (i : Int) ≤ (n : Int) := by omega
  have hne : ((i : Int) == (n : Int)) = false := by rw [beq_eq_false_iff_ne]; omega
  have hw1 : IntKind.i64.wrap ((n : Int) + 1) = (n : Int) + 1 := by rw [IntKind.wrap_i64]; omega
  have hw2 : IntKind.i64.wrap ((i : Int) + 1) = (i : Int) + 1 := by rw [IntKind.wrap_i64]; omega
  have hw3 : IntKind.i64.wrap ((n : Int) + 1 - (i : Int)) = ((n + 1 - i : Nat) : Int) := by rw [IntKind.wrap_i64]; omega
  have hgt : (cap : Int) < (n : Int) + 1 := by omega
  have hti : ((i : Int) + 1).toNat = i + 1 := by omega
  have hiz1 : (0 : Int) ≤ (i : Int) + 1 := by omega
  have hin1 : (i : Int) + 1 ≤ (n : Int) + 1 := by omega
  have hin2 : (i : Int) ≤ (n : Int) + 1 := by omega
  have hic : (i : Int) ≤ (cap : Int) := by omega
  have hci : ¬ (cap = i) := by omega
  have hGi : ¬ (G = i) := by omega
  have hGi1 : ¬ (G = i + 1) := by omega
  have hsub : n + 1 - (i + 1) = n - i := by omega
  clear hr1 hr2 hg1 hx hg ht hs h q1 q2 q3 q4 hL1 hL2 hcs hcl hl1 hi0 hz0 hz1 hz2 hza hZ1 hZ2 hZ1s hZ2s hL0 hct hL0s hL0t hW0 hg0 hk0 hgr0 hG hold hglt hblt hH
  go_enter Tryz.func91, Tryz.ntmps91
  go_wp2_with (at_builtin; refine Lib.wpList_append_run _ rfl _ _ _ _ rfl _ _ rfl rfl _ _ (HZA.out _) ?_)
  go_region_law_o (refine step_copy_run rfl _ _ 22 22 rfl (.slice (some ⟨H, (i + 1) * 2, none⟩) (n - i) (G - (i + 1))) (.slice (some ⟨g, i * 2, none⟩) (n - i) (cap - i)) (by simp [Act.eval, Act.put]) (by simp [Act.eval, Act.put]) (HR2.out _ _ _ _ (by omega)) ?_)
  go_wp2_with fail
  go_ret
  exact ⟨_, rfl, HROW.out, HG.out⟩

end Go.Proofs.YtelcongbnmfegaaGreatDoor

/-
  The contract of with: a value with other texts for a name.
-/
namespace Go.Proofs.YtelcongbnmfegaaGreatDoor
open Go.RowKit Go.Lib

theorem insX_any (N i : Nat) (v : Value) (o : List Fx) (x : Fx) (b : Nat) (w : World) (hv : RowX N w v o) (hi : i ≤ o.length) (hl : o.length ≤ 1000000) (hx : w.heap[b]? = some (.cells (encX x).toArray 44 (0, 0))) (hb : v.ownBlock ≠ some b) (hN : N ≤ w.heap.size) :
    Calls Tryz.prog 91 #[v, .int .i64 i, .slice (some ⟨b, 0, none⟩) 1 1] w fun e w' => InsPost N w v o i x e w' := by
  by_cases h : i = o.length
  · subst h
    exact insX_end N v o x b w hv hl hx hN
  · rcases hv.2 with ⟨_, h0⟩ | ⟨g, cap, cur, rfl, _, _, hc, _⟩
    · omega
    · by_cases hr : o.length + 1 ≤ cap
      · exact insX_room N g o.length cap i o x b w hv (by omega) hr hl hx (fun e => hb (by rw [e]; rfl))
      · exact insX_grow N g o.length cap i o x b w hv (by omega) (by omega) hl hN hx

theorem grownE_below {w W : World} (hb : Below w.heap.size w W) (ob : Option Nat) : w.grownBy W ob := ⟨hb.os, hb.tape, hb.output, hb.size, fun k hk _ => hb.block k hk⟩
theorem grownE_two {w1 w2 w3 : World} {ob : Option Nat} (h : w1.grownBy w2 ob) (k : w2.grownBy w3 ob) : w1.grownBy w3 ob :=
  ⟨k.os.trans h.os, k.tape.trans h.tape, k.output.trans h.output, Nat.le_trans h.size k.size, fun j hj hne => (k.block j (Nat.lt_of_lt_of_le hj h.size) hne).trans (h.block j hj hne)⟩

def PWithPost (N : Nat) (w : World) (v : Value) (r : List Fld) (e : Ending) (w' : World) : Prop := ∃ u o', e = .returned u ∧ OwnJ N w' u o' ∧ o'.map Fx.fld = r ∧ w.grownBy w' v.ownBlock

/-- A row of fields that was turned: what it holds now, and its texts. -/
theorem ownJ_turn {N : Nat} {w w' : World} {v u : Value} {o o' : List Fx} (hv : OwnJ N w v o) (hg : w.grownBy w' v.ownBlock) (hrow : RowX N w' u o') (hap : Apart o') (hm : ∀ y ∈ o', y ∈ o ∨ OwnT N w y.sl y.txt) : OwnJ N w' u o' := by
  refine ⟨⟨hrow, fun y hy => ?_⟩, hap⟩
  rcases hm y hy with h | h
  · exact own_else (hv.1.2 y h) hv.1.1 (by decide) hg
  · exact own_else h hv.1.1 (by decide) hg

theorem ownT_turn {N M : Nat} {w w' : World} {v t : Value} {o : List Fx} {ts : List ByteArray} (hv : OwnJ N w v o) (ht : OwnT M w t ts) (hg : w.grownBy w' v.ownBlock) : OwnT M w' t ts := own_else ht hv.1.1 (by decide) hg

theorem bel_grown {N : Nat} {w w' : World} {v : Value} {o : List Fx} (hv : OwnJ N w v o) (hN : N ≤ w.heap.size) (hg : w.grownBy w' v.ownBlock) : Below N w w' :=
  (Below.refl _ _).grown hg hN (fun k hk => (World.ownsRow.lt hv.1.1 k hk).1)

theorem map_ins {o : List Fx} {c : Nat} {x : Fx} : (o.take c ++ x :: o.drop c).map Fx.fld = (o.map Fx.fld).take c ++ x.fld :: (o.map Fx.fld).drop c := by
  rw [List.map_append, List.map_cons, List.map_take, List.map_drop]

theorem map_erase {o : List Fx} {c : Nat} : (o.eraseIdx c).map Fx.fld = (o.map Fx.fld).eraseIdx c := by
  rw [List.eraseIdx_eq_take_drop_succ, List.eraseIdx_eq_take_drop_succ, List.map_append, List.map_take, List.map_drop]

/-- A field is laid in: what is there then. -/
theorem with_laid {N : Nat} {w w' : World} {v u : Value} {o : List Fx} {c : Nat} {n : ByteArray} {p : Option Addr} {cap : Nat} {ts : List ByteArray} (hv : OwnJ N w v o) (ht : OwnT N w (.slice p ts.length cap) ts)
    (hap : ∀ y ∈ o, y.sl.ownBlock = none ∨ y.sl.ownBlock ≠ (Value.slice p ts.length cap).ownBlock) (hrow : RowX N w' u (o.take c ++ ⟨n, p, cap, ts⟩ :: o.drop c)) (hg : w.grownBy w' v.ownBlock) :
    OwnJ N w' u (o.take c ++ ⟨n, p, cap, ts⟩ :: o.drop c) := by
  refine ownJ_turn hv hg hrow (apart_ins (by rw [List.take_append_drop]; exact hv.2) (fun y hy => hap y (by rwa [List.take_append_drop] at hy))) (fun y hy => ?_)
  rw [List.mem_append, List.mem_cons] at hy
  rcases hy with hy | rfl | hy
  · exact Or.inl (List.mem_of_mem_take hy)
  · exact Or.inr ht
  · exact Or.inl (List.mem_of_mem_drop hy)

set_option maxHeartbeats 4000000 in
set_option maxRecDepth 100000 in
theorem pwith_any (N : Nat) (v tv : Value) (n : ByteArray) (ts : List ByteArray) (o : List Fx) (w : World) (hv : OwnJ N w v o) (hr : Rising (o.map Fx.fld)) (hl : o.length ≤ 1000000) (ht : OwnT N w tv ts) (hts : ts.length ≤ 1000000)
    (hap : ∀ y ∈ o, y.sl.ownBlock = none ∨ y.sl.ownBlock ≠ tv.ownBlock) (hN : N ≤ w.heap.size) :
    Calls Tryz.prog 53 #[v, .string n, tv] w fun e w' => PWithPost N w v (setF (o.map Fx.fld) n ts) e w' := by
  obtain ⟨c, F, P⟩ := place_of (o.map Fx.fld) hr n
  have hset := setF_place P ts
  have hcl : c ≤ o.length := by have := P.le; rwa [List.length_map] at this
  have HB := hid (bsx_any v o n c F w hv.1.is P hl)
  obtain ⟨p, cap, rfl⟩ := own_slice ht
  have HNB := hid hN
  have hlz : ∀ {m : Nat}, m ≠ 0 → (0 : Int) < (m : Int) := fun h => by omega
  have hz0 : (0 : Int) ≤ (c : Int) := by omega
  have hw1 : IntKind.i64.wrap ((c : Int) + 1) = (c : Int) + 1 := by rw [IntKind.wrap_i64]; omega
  cases F with
  | false =>
    simp only [Bool.false_eq_true, if_false] at hset
    by_cases h0 : ts = []
    · subst h0
      have hset2 : setF (o.map Fx.fld) n [] = o.map Fx.fld := by rw [hset]; simp
      have HS := hid hset2
      have HV := hid hv
      clear hset hset2 hv hr ht hap P
      go_enter Tryz.func53, Tryz.ntmps53
      go_wp2_with fail
      refine HB.out.mono ?_
      rintro e w1 ⟨rfl, hb1⟩
      have HB1 := hid hb1
      clear hb1
      go_wp2_with fail
      go_ret
      exact ⟨_, o, rfl, HV.out.on HB1.out, HS.out.symm, grownE_below HB1.out _⟩
    · have hlen : ts.length ≠ 0 := fun e => h0 (List.length_eq_zero_iff.1 e)
      have hlenz : (0 : Int) < (ts.length : Int) := hlz hlen
      have hset2 : setF (o.map Fx.fld) n ts = (o.take c ++ ⟨n, p, cap, ts⟩ :: o.drop c).map Fx.fld := by
        rw [hset, map_ins]
        have : ts.isEmpty = false := by cases ts with | nil => exact absurd rfl h0 | cons _ _ => rfl
        rw [this]
        rfl
      have HS := hid hset2
      have HV := hid hv
      have HT := hid ht
      have HAP := hid hap
      clear hset hset2 hv hr ht hap P h0 hlen
      go_enter Tryz.func53, Tryz.ntmps53
      go_wp2_with fail
      refine HB.out.mono ?_
      rintro e w1 ⟨rfl, hb1⟩
      obtain ⟨W, hW⟩ : ∃ W, w1.alloc (.cells #[.string n, .slice p ts.length cap] 44) = W := ⟨_, rfl⟩
      obtain ⟨B, hB⟩ : ∃ B, w1.heap.size = B := ⟨_, rfl⟩
      have hb2 : Below w.heap.size w W := by rw [← hW]; exact hb1.alloc hb1.size _
      have hbx : W.heap[B]? = some (.cells (encX ⟨n, p, cap, ts⟩).toArray 44 (0, 0)) := by rw [← hW, ← hB]; exact heap_alloc_new w1 _
      have hvW := HV.out.on hb2
      have hne : v.ownBlock ≠ some B := fun e => by
        have := (World.ownsRow.lt HV.out.1.1 B e).2
        have := hb1.size
        omega
      have HIN := hid (insX_any N c v o ⟨n, p, cap, ts⟩ B W hvW.1.1 hcl hl hbx hne (Nat.le_trans hN hb2.size))
      have HVW := hid hvW
      have HTW := hid (OwnT.on HT.out hb2)
      have HB2 := hid hb2
      clear hb1 hb2 hbx hvW hne
      go_wp2_with fail
      refine HIN.out.mono ?_
      rintro e w2 ⟨u, rfl, hrow, hg⟩
      have HR := hid hrow
      have HG := hid hg
      clear hrow hg
      go_wp2_with fail
      go_ret
      refine ⟨_, _, rfl, with_laid HVW.out HTW.out HAP.out HR.out HG.out, HS.out.symm, ?_⟩
      exact grownE_two (grownE_below HB2.out _) HG.out
  | true =>
    rw [if_pos rfl] at hset
    obtain ⟨hc, _⟩ := P.here rfl
    rw [List.length_map] at hc
    obtain ⟨et, ed⟩ := erase_take (o.map Fx.fld) c (by rw [List.length_map]; exact hc)
    obtain ⟨g, cp, hvv⟩ : ∃ g cp, v = .slice (some ⟨g, 0, none⟩) o.length cp := by
      rcases hv.1.1.2 with ⟨_, h0⟩ | ⟨g, cp, cur, h1, _⟩
      · omega
      · exact ⟨g, cp, h1⟩
    subst hvv
    obtain ⟨m, hm⟩ : ∃ m, o.length = m := ⟨_, rfl⟩
    have HV : Hid (OwnJ N w (.slice (some ⟨g, 0, none⟩) m cp) o) := by rw [← hm]; exact hv
    have HT := hid ht
    have HAP := hid hap
    have HDEL : Hid (∀ W, Below w.heap.size w W → Calls Tryz.prog 90 #[.slice (some ⟨g, 0, none⟩) m cp, .int .i64 c, .int .i64 ((c : Int) + 1)] W fun e w' => e = .returned (.slice (some ⟨g, 0, none⟩) (m - 1) cp) ∧ RowX N w' (.slice (some ⟨g, 0, none⟩) (m - 1) cp) (o.eraseIdx c) ∧ W.grownBy w' (some g)) :=
      fun W hb => delX_any N g m cp c o W (HV.out.on hb).1.1 (by omega)
    have HJ : Hid (∀ W w', Below w.heap.size w W → RowX N w' (.slice (some ⟨g, 0, none⟩) (m - 1) cp) (o.eraseIdx c) → W.grownBy w' (some g) → OwnJ N w' (.slice (some ⟨g, 0, none⟩) (m - 1) cp) (o.eraseIdx c) ∧ OwnT N w' (.slice p ts.length cap) ts ∧ w.grownBy w' (some g)) := fun W w' hb hrow hg =>
      ⟨ownJ_turn (HV.out.on hb) hg hrow (apart_less hv.2 (List.eraseIdx_sublist _ _)) (fun y hy => Or.inl ((List.eraseIdx_sublist _ _).subset hy)), ownT_turn (HV.out.on hb) (OwnT.on HT.out hb) hg, grownE_two (grownE_below hb _) hg⟩
    rw [hm] at HB hl hc hcl ⊢
    by_cases h0 : ts = []
    · subst h0
      have hset2 : setF (o.map Fx.fld) n [] = (o.eraseIdx c).map Fx.fld := by
        rw [hset, map_erase, List.eraseIdx_eq_take_drop_succ]
        rfl
      have HS := hid hset2
      clear hset hset2 hv hr ht hap P et ed hm
      go_enter Tryz.func53, Tryz.ntmps53
      go_wp2_with fail
      refine HB.out.mono ?_
      rintro e w1 ⟨rfl, hb1⟩
      have HB1 := hid hb1
      clear hb1
      go_wp2_with fail
      refine (HDEL.out _ HB1.out).mono ?_
      rintro e w2 ⟨rfl, hrow, hg⟩
      have HK := hid (HJ.out _ _ HB1.out hrow hg)
      clear hrow hg
      go_wp2_with fail
      go_ret
      exact ⟨_, _, rfl, HK.out.1, HS.out.symm, HK.out.2.2⟩
    · have hlen : ts.length ≠ 0 := fun e => h0 (List.length_eq_zero_iff.1 e)
      have hlenz : (0 : Int) < (ts.length : Int) := hlz hlen
      have hset2 : setF (o.map Fx.fld) n ts = ((o.eraseIdx c).take c ++ ⟨n, p, cap, ts⟩ :: (o.eraseIdx c).drop c).map Fx.fld := by
        rw [hset, map_ins, map_erase, et, ed]
        have : ts.isEmpty = false := by cases ts with | nil => exact absurd rfl h0 | cons _ _ => rfl
        rw [this]
        rfl
      have HS := hid hset2
      have hel : (o.eraseIdx c).length = m - 1 := by rw [List.length_eraseIdx, if_pos (by omega), hm]
      have HEL := hid hel
      clear hset hset2 hv hr ht hap P h0 hlen et ed hm hel
      go_enter Tryz.func53, Tryz.ntmps53
      go_wp2_with fail
      refine HB.out.mono ?_
      rintro e w1 ⟨rfl, hb1⟩
      have HB1 := hid hb1
      clear hb1
      go_wp2_with fail
      refine (HDEL.out _ HB1.out).mono ?_
      rintro e w2 ⟨rfl, hrow, hg⟩
      obtain ⟨hvJ, htJ, hbJ⟩ := HJ.out _ _ HB1.out hrow hg
      clear hrow hg
      obtain ⟨W, hW⟩ : ∃ W, w2.alloc (.cells #[.string n, .slice p ts.length cap] 44) = W := ⟨_, rfl⟩
      obtain ⟨B, hB⟩ : ∃ B, w2.heap.size = B := ⟨_, rfl⟩
      have hb2 : Below w2.heap.size w2 W := by rw [← hW]; exact (Below.refl _ _).alloc (Nat.le_refl _) _
      have hbx : W.heap[B]? = some (.cells (encX ⟨n, p, cap, ts⟩).toArray 44 (0, 0)) := by rw [← hW, ← hB]; exact heap_alloc_new w2 _
      have hvW := hvJ.on hb2
      have hne : (Value.slice (some ⟨g, 0, none⟩) (m - 1) cp).ownBlock ≠ some B := fun e => by
        have := (World.ownsRow.lt hvJ.1.1 B e).2
        omega
      have hNW : N ≤ W.heap.size := Nat.le_trans hN (Nat.le_trans hbJ.size hb2.size)
      have HIN := hid (insX_any N c _ (o.eraseIdx c) ⟨n, p, cap, ts⟩ B W hvW.1.1 (by rw [HEL.out]; omega) (by rw [HEL.out]; omega) hbx hne hNW)
      have HVW := hid hvW
      have HTW := hid (OwnT.on htJ hb2)
      have HBW := hid (show w.grownBy W (some g) from grownE_two hbJ (grownE_below hb2 _))
      have HAP2 : Hid (∀ y ∈ o.eraseIdx c, y.sl.ownBlock = none ∨ y.sl.ownBlock ≠ (Value.slice p ts.length cap).ownBlock) := fun y hy => HAP.out y ((List.eraseIdx_sublist _ _).subset hy)
      clear hvJ htJ hbJ hb2 hbx hvW hne hNW
      go_wp2_with fail
      refine HIN.out.mono ?_
      rintro e w3 ⟨u, rfl, hrow, hg⟩
      have HR := hid hrow
      have HG := hid hg
      clear hrow hg
      go_wp2_with fail
      go_ret
      refine ⟨_, _, rfl, with_laid HVW.out HTW.out HAP2.out HR.out HG.out, HS.out.symm, ?_⟩
      exact grownE_two HBW.out HG.out

end Go.Proofs.YtelcongbnmfegaaGreatDoor

/-
  Rows of fields of one's own, written over in place; the reference's copy of a value. (What the texts of stages 3, 5 and 6 share.)
-/
namespace Go.Proofs.YtelcongbnmfegaaGreatDoor
open Go.RowKit Go.Lib

theorem own_same {w w' : World} {n0 : Nat} {e : TypeId} {size : Nat} {v : Value} {n : Nat} {xs : List Value} (h : w.ownsRow n0 e size v n xs) (hk : ∀ k, v.ownBlock = some k → w'.heap[k]? = w.heap[k]?) : w'.ownsRow n0 e size v n xs := by
  refine ⟨h.1, ?_⟩
  rcases h.2 with h2 | ⟨g, cap, cur, hv, h3, h4, h5⟩
  · exact Or.inl h2
  · exact Or.inr ⟨g, cap, cur, hv, h3, (hk g (by rw [hv]; rfl)).trans h4, h5⟩

/-- Blocks ahead of A, and from B up to C, are as they were. -/
structure KeptZ (A B C : Nat) (we W : World) : Prop where
  os : W.os = we.os
  tape : W.tape = we.tape
  output : W.output = we.output
  size : C ≤ W.heap.size
  block : ∀ k, k < C → (k < A ∨ B ≤ k) → W.heap[k]? = we.heap[k]?

def ZoneV (B C : Nat) (v : Value) : Prop := ∀ k, v.ownBlock = some k → k < B ∨ C ≤ k

theorem KeptZ.grown {A B C : Nat} {we W W' : World} {ob : Option Nat} (h : KeptZ A B C we W) (hg : W.grownBy W' ob) (hz : ∀ k, ob = some k → A ≤ k ∧ (k < B ∨ C ≤ k)) : KeptZ A B C we W' :=
  ⟨hg.os.trans h.os, hg.tape.trans h.tape, hg.output.trans h.output, Nat.le_trans h.size hg.size, fun k hk hz2 => (hg.block k (Nat.lt_of_lt_of_le hk h.size) fun e => by
    have := hz k e.symm
    omega).trans (h.block k hk hz2)⟩

theorem grown_alloc (w : World) (o : Obj) : w.grownBy (w.alloc o) none := by
  have := (Below.refl w.heap.size w).alloc (Nat.le_refl _) o
  exact ⟨this.os, this.tape, this.output, this.size, fun k hk _ => this.block k hk⟩

theorem KeptZ.below {A B C : Nat} {we W : World} (h : KeptZ A B C we W) (hAC : A ≤ C) (hC : we.heap.size ≤ C) : Below A we W :=
  ⟨h.os, h.tape, h.output, Nat.le_trans hC h.size, fun k hk => h.block k (by omega) (Or.inl hk)⟩

/-- The fields o, written over in place. -/
structure XSt (A B C : Nat) (we : World) (u : Value) (o : List Fx) (W : World) : Prop where
  own : OwnJ A W u o
  zu : ZoneV B C u
  zo : ∀ x ∈ o, ZoneV B C x.sl
  kept : KeptZ A B C we W

theorem cellsX_set (o : List Fx) (i : Nat) (h : i < o.length) (x : Fx) : cellsX (o.set i x) = ((cellsX o).set (i * 2) (.string x.name)).set (i * 2 + 1) x.sl := by
  induction o generalizing i with
  | nil => simp at h
  | cons y o ih =>
    have e : ∀ z l, cellsX (z :: l) = .string z.name :: z.sl :: cellsX l := fun _ _ => rfl
    cases i with
    | zero => rw [List.set_cons_zero, e, e]; rfl
    | succ i =>
      rw [List.set_cons_succ, e, e, ih i (by simpa using h), show (i + 1) * 2 = i * 2 + 1 + 1 by omega]
      rfl

theorem apart_ne {o : List Fx} (h : Apart o) {i j : Nat} (hi : i < o.length) (hj : j < o.length) (hne : i ≠ j) : (o[i]).sl.ownBlock = none ∨ (o[i]).sl.ownBlock ≠ (o[j]).sl.ownBlock := by
  have hp := List.pairwise_iff_getElem.1 h
  rcases Nat.lt_or_gt_of_ne hne with hl | hl
  · exact hp i j hi hj hl
  · rcases hp j i hj hi hl with h1 | h1
    · rcases hb : (o[i]).sl.ownBlock with _ | k
      · exact Or.inl rfl
      · right; rw [h1]; simp
    · exact Or.inr (Ne.symm h1)

theorem apart_set {o : List Fx} (h : Apart o) {i : Nat} (_hi : i < o.length) {x : Fx} (hx : ∀ j, (hj : j < o.length) → j ≠ i → (o[j]).sl.ownBlock = none ∨ (o[j]).sl.ownBlock ≠ x.sl.ownBlock) : Apart (o.set i x) := by
  have hp := List.pairwise_iff_getElem.1 h
  refine List.pairwise_iff_getElem.2 fun a b ha hb hab => ?_
  rw [List.length_set] at ha hb
  rw [List.getElem_set, List.getElem_set]
  by_cases h1 : i = a
  · subst h1
    rw [if_pos rfl, if_neg (by omega)]
    rcases hx b hb (by omega) with h2 | h2
    · rcases hq : x.sl.ownBlock with _ | k
      · exact Or.inl rfl
      · right; rw [h2]; simp
    · exact Or.inr (Ne.symm h2)
  · rw [if_neg h1]
    by_cases h2 : i = b
    · subst h2
      rw [if_pos rfl]
      exact hx a ha (by omega)
    · rw [if_neg h2]
      exact hp a b ha hb hab

/-- The row of fields u has its block. -/
theorem XSt.shape {A B C : Nat} {we W : World} {u : Value} {o : List Fx} (h : XSt A B C we u o W) (hpos : 0 < o.length) : ∃ g c, u = .slice (some ⟨g, 0, none⟩) o.length c := by
  rcases h.own.1.1.2 with ⟨_, h0⟩ | ⟨g, c, cur, hv, _⟩
  · omega
  · exact ⟨g, c, hv⟩

/-- What can be read of the field i, and that it can be written. -/
theorem XSt.cells {A B C : Nat} {we W : World} {g c n : Nat} {o : List Fx} (h : XSt A B C we (.slice (some ⟨g, 0, none⟩) n c) o W) (hn : o.length = n) {i : Nat} (hi : i < o.length) :
    W.cell? ⟨g, i * 2, none⟩ = some (.string (o[i]).name) ∧ W.cell? ⟨g, i * 2 + 1, none⟩ = some (o[i]).sl ∧ W.frozen? ⟨g, i * 2, none⟩ = false ∧ W.frozen? ⟨g, i * 2 + 1, none⟩ = false := by
  subst hn
  have hrow := h.own.1.1
  obtain ⟨h1, h2⟩ := cellsX_get o i hi
  exact ⟨by rw [hrow.cellAt _ (by omega)]; exact h1, by rw [hrow.cellAt _ (by omega)]; exact h2, hrow.frozenAt _, hrow.frozenAt _⟩

theorem sl_lt {A : Nat} {W : World} {x : Fx} (h : OwnT A W x.sl x.txt) : ∀ k, x.sl.ownBlock = some k → A ≤ k := fun k hk => (World.ownsRow.lt h k hk).1

/-- One text is written over. -/
theorem XSt.wipe {A B C : Nat} {we W : World} {u : Value} {o : List Fx} (h : XSt A B C we u o W) {i : Nat} (hi : i < o.length) {j gt : Nat} (hp : (o[i]).p = some ⟨gt, 0, none⟩) (t : ByteArray) :
    XSt A B C we u (o.set i ⟨(o[i]).name, (o[i]).p, (o[i]).cap, (o[i]).txt.set j t⟩) (W.setCell ⟨gt, j, none⟩ (.string t)) := by
  have hti := h.own.1.2 _ (List.getElem_mem hi)
  have hbi : (o[i]).sl.ownBlock = some gt := by unfold Fx.sl; rw [hp]; rfl
  have hg : W.grownBy (W.setCell ⟨gt, j, none⟩ (.string t)) (o[i]).sl.ownBlock := by rw [hbi]; exact grown_set W gt j _
  have hsl : (⟨(o[i]).name, (o[i]).p, (o[i]).cap, (o[i]).txt.set j t⟩ : Fx).sl = (o[i]).sl := by unfold Fx.sl; simp
  have hnew : OwnT A (W.setCell ⟨gt, j, none⟩ (.string t)) (o[i]).sl ((o[i]).txt.set j t) := by
    have e : (o[i]).sl = .slice (some ⟨gt, 0, none⟩) (o[i]).txt.length (o[i]).cap := by unfold Fx.sl; rw [hp]
    have h1 : W.ownsRow A 9 1 (.slice (some ⟨gt, 0, none⟩) (o[i]).txt.length (o[i]).cap) (o[i]).txt.length ((o[i]).txt.map Value.string) := by rw [← e]; exact hti
    have h2 := (h1.stored j (.string t)).1
    unfold OwnT
    rw [e, List.length_set, List.map_set]
    exact h2
  refine ⟨⟨⟨?_, fun x hx => ?_⟩, ?_⟩, h.zu, fun x hx => ?_, h.kept.grown hg fun k hk => ⟨sl_lt hti k hk, h.zo _ (List.getElem_mem hi) k hk⟩⟩
  · rw [List.length_set, cellsX_set _ _ hi, hsl]
    obtain ⟨c0, c1⟩ := cellsX_get o i hi
    have e1 : ((cellsX o).set (i * 2) (.string (o[i]).name)).set (i * 2 + 1) (o[i]).sl = cellsX o := by
      apply List.ext_getElem?
      intro q
      rw [List.getElem?_set, List.getElem?_set]
      simp only [List.length_set]
      have hl := cellsX_len o
      split
      · rename_i hq; subst hq; rw [if_pos (by omega)]; exact c1.symm
      · split
        · rename_i hq; subst hq; rw [if_pos (by omega)]; exact c0.symm
        · rfl
    rw [e1]
    exact own_else h.own.1.1 hti (by decide) hg
  · obtain ⟨q, hq, rfl⟩ := List.mem_iff_getElem.1 hx
    rw [List.length_set] at hq
    rw [List.getElem_set]
    by_cases e : i = q
    · rw [if_pos e, hsl]; exact hnew
    · rw [if_neg e]
      exact World.ownsRow.kept (h.own.1.2 _ (List.getElem_mem hq)) hg (apart_ne h.own.2 hq hi (by omega))
  · refine apart_set h.own.2 hi fun q hq hne => ?_
    rw [hsl]
    exact apart_ne h.own.2 hq hi hne
  · obtain ⟨q, hq, rfl⟩ := List.mem_iff_getElem.1 hx
    rw [List.length_set] at hq
    rw [List.getElem_set]
    by_cases e : i = q
    · rw [if_pos e, hsl]; exact h.zo _ (List.getElem_mem hi)
    · rw [if_neg e]; exact h.zo _ (List.getElem_mem hq)

/-- The name is written over. -/
theorem XSt.rename {A B C : Nat} {we W : World} {g c n : Nat} {o : List Fx} (h : XSt A B C we (.slice (some ⟨g, 0, none⟩) n c) o W) (hn : o.length = n) {i : Nat} (hi : i < o.length) (nm : ByteArray) :
    XSt A B C we (.slice (some ⟨g, 0, none⟩) n c) (o.set i ⟨nm, (o[i]).p, (o[i]).cap, (o[i]).txt⟩) (W.setCell ⟨g, i * 2, none⟩ (.string nm)) := by
  subst hn
  have hrow := h.own.1.1
  have hg : W.grownBy (W.setCell ⟨g, i * 2, none⟩ (.string nm)) (Value.slice (some ⟨g, 0, none⟩) o.length c).ownBlock := grown_set W g _ _
  have hsl : (⟨nm, (o[i]).p, (o[i]).cap, (o[i]).txt⟩ : Fx).sl = (o[i]).sl := rfl
  refine ⟨⟨⟨?_, fun x hx => ?_⟩, ?_⟩, h.zu, fun x hx => ?_, h.kept.grown hg fun k hk => ⟨(World.ownsRow.lt hrow k hk).1, h.zu k hk⟩⟩
  · have hst := (hrow.stored (i * 2) (.string nm)).1
    rw [List.length_set, cellsX_set _ _ hi, hsl]
    have e1 : ((cellsX o).set (i * 2) (.string nm)).set (i * 2 + 1) (o[i]).sl = (cellsX o).set (i * 2) (.string nm) := by
      apply List.ext_getElem?
      intro q
      rw [List.getElem?_set]
      split
      · rename_i hq
        subst hq
        rw [if_pos (by rw [List.length_set, cellsX_len]; omega), List.getElem?_set_ne (by omega)]
        exact ((cellsX_get o i hi).2).symm
      · rfl
    rw [e1]
    exact hst
  · obtain ⟨q, hq, rfl⟩ := List.mem_iff_getElem.1 hx
    rw [List.length_set] at hq
    rw [List.getElem_set]
    by_cases e : i = q
    · rw [if_pos e]; exact own_else (show W.ownsRow A 9 1 (o[i]).sl (o[i]).txt.length ((o[i]).txt.map Value.string) from h.own.1.2 _ (List.getElem_mem hi)) hrow (by decide) hg
    · rw [if_neg e]; exact own_else (h.own.1.2 _ (List.getElem_mem hq)) hrow (by decide) hg
  · refine apart_set h.own.2 hi fun q hq hne => ?_
    rw [hsl]
    exact apart_ne h.own.2 hq hi hne
  · obtain ⟨q, hq, rfl⟩ := List.mem_iff_getElem.1 hx
    rw [List.length_set] at hq
    rw [List.getElem_set]
    by_cases e : i = q
    · rw [if_pos e, hsl]; exact h.zo _ (List.getElem_mem hi)
    · rw [if_neg e]; exact h.zo _ (List.getElem_mem hq)

/-- A block more, that nobody owns. -/
theorem XSt.alloc {A B C : Nat} {we W : World} {u : Value} {o : List Fx} (h : XSt A B C we u o W) (ob : Obj) : XSt A B C we u o (W.alloc ob) :=
  ⟨h.own.on ((Below.refl _ _).alloc (Nat.le_refl _) _), h.zu, h.zo, h.kept.grown (grown_alloc W ob) fun k hk => by cases hk⟩

/-- The texts have grown by one, and are stored back. -/
theorem XSt.grow {A B C : Nat} {we W W4 : World} {g c n : Nat} {o : List Fx} (h : XSt A B C we (.slice (some ⟨g, 0, none⟩) n c) o W) (hn : o.length = n) {i : Nat} (hi : i < o.length) {p : Option Addr} {m cap : Nat} {ts : List ByteArray}
    (hm : ts.length = m) (hown : W4.ownsRow A 9 1 (.slice p m cap) m (ts.map Value.string)) (hg : W.grownBy W4 (o[i]).sl.ownBlock) (hat : (Value.slice p m cap).ownBlock = (o[i]).sl.ownBlock ∨ (Value.slice p m cap).ownBlock = some W.heap.size) :
    W4.cell? ⟨g, i * 2 + 1, none⟩ = some (o[i]).sl ∧ W4.frozen? ⟨g, i * 2 + 1, none⟩ = false ∧
      XSt A B C we (.slice (some ⟨g, 0, none⟩) n c) (o.set i ⟨(o[i]).name, p, cap, ts⟩) (W4.setCell ⟨g, i * 2 + 1, none⟩ (.slice p m cap)) := by
  subst hn
  subst hm
  have hrow := h.own.1.1
  have hti := h.own.1.2 _ (List.getElem_mem hi)
  have hrow4 : W4.ownsRow A 44 2 (.slice (some ⟨g, 0, none⟩) o.length c) o.length (cellsX o) := own_else hrow hti (by decide) hg
  have hset : W4.grownBy (W4.setCell ⟨g, i * 2 + 1, none⟩ (.slice p ts.length cap)) (Value.slice (some ⟨g, 0, none⟩) o.length c).ownBlock := grown_set W4 g _ _
  have hk4 : KeptZ A B C we W4 := h.kept.grown hg fun k hk => ⟨sl_lt hti k hk, h.zo _ (List.getElem_mem hi) k hk⟩
  have hzn : ZoneV B C (.slice p ts.length cap) := fun k hk => by
    rcases hat with e | e
    · exact h.zo _ (List.getElem_mem hi) k (by rw [← e]; exact hk)
    · have := h.kept.size
      rw [e] at hk
      have : W.heap.size = k := by simpa using hk
      omega
  refine ⟨by rw [hrow4.cellAt _ (by omega)]; exact (cellsX_get o i hi).2, hrow4.frozenAt _, ⟨⟨⟨?_, fun x hx => ?_⟩, ?_⟩, h.zu, fun x hx => ?_, hk4.grown hset fun k hk => ⟨(World.ownsRow.lt hrow k hk).1, h.zu k hk⟩⟩⟩
  · have hst := (hrow4.stored (i * 2 + 1) (.slice p ts.length cap)).1
    rw [List.length_set, cellsX_set _ _ hi]
    have e1 : (cellsX o).set (i * 2) (.string (o[i]).name) = cellsX o := by
      apply List.ext_getElem?
      intro q
      rw [List.getElem?_set]
      split
      · rename_i hq
        subst hq
        rw [if_pos (by rw [cellsX_len]; omega)]
        exact ((cellsX_get o i hi).1).symm
      · rfl
    rw [e1]
    exact hst
  · obtain ⟨q, hq, rfl⟩ := List.mem_iff_getElem.1 hx
    rw [List.length_set] at hq
    rw [List.getElem_set]
    by_cases e : i = q
    · rw [if_pos e]; exact own_else (show W4.ownsRow A 9 1 (.slice p ts.length cap) ts.length (ts.map Value.string) from hown) hrow4 (by decide) hset
    · rw [if_neg e]
      have hy4 : W4.ownsRow A 9 1 (o[q]).sl (o[q]).txt.length ((o[q]).txt.map Value.string) := World.ownsRow.kept (h.own.1.2 _ (List.getElem_mem hq)) hg (apart_ne h.own.2 hq hi (by omega))
      exact own_else hy4 hrow4 (by decide) hset
  · refine apart_set h.own.2 hi fun q hq hne => ?_
    show (o[q]).sl.ownBlock = none ∨ (o[q]).sl.ownBlock ≠ (Value.slice p ts.length cap).ownBlock
    rcases hat with e | e
    · rw [e]; exact apart_ne h.own.2 hq hi hne
    · rcases hb : (o[q]).sl.ownBlock with _ | k
      · exact Or.inl rfl
      · right
        have := (World.ownsRow.lt (h.own.1.2 _ (List.getElem_mem hq)) k hb).2
        rw [e]
        intro e2
        simp at e2; omega
  · obtain ⟨q, hq, rfl⟩ := List.mem_iff_getElem.1 hx
    rw [List.length_set] at hq
    rw [List.getElem_set]
    by_cases e : i = q
    · rw [if_pos e]; exact hzn
    · rw [if_neg e]; exact h.zo _ (List.getElem_mem hq)


theorem XSt.on {A B C : Nat} {we W W' : World} {u : Value} {o : List Fx} (h : XSt A B C we u o W) (hb : Below W.heap.size W W') : XSt A B C we u o W' :=
  ⟨h.own.on hb, h.zu, h.zo, ⟨hb.os.trans h.kept.os, hb.tape.trans h.kept.tape, hb.output.trans h.kept.output, Nat.le_trans h.kept.size hb.size, fun k hk hz => (hb.block k (by have := h.kept.size; omega)).trans (h.kept.block k hk hz)⟩⟩

theorem XSt.below {N : Nat} {we W : World} {u : Value} {o : List Fx} (h : XSt N N N we u o W) (hN : N = we.heap.size) : Below N we W := h.kept.below (Nat.le_refl _) (by omega)

theorem XSt.put {A B C : Nat} {we W : World} {g c n : Nat} {o : List Fx} (h : XSt A B C we (.slice (some ⟨g, 0, none⟩) n c) o W) (hn : o.length = n) {i : Nat} (hi : i < o.length) (x : Fx) (hx : OwnT A W x.sl x.txt) (hz : ZoneV B C x.sl)
    (hf : ∀ j, (hj : j < o.length) → j ≠ i → (o[j]).sl.ownBlock = none ∨ (o[j]).sl.ownBlock ≠ x.sl.ownBlock) :
    XSt A B C we (.slice (some ⟨g, 0, none⟩) n c) (o.set i x) ((W.setCell ⟨g, i * 2, none⟩ (.string x.name)).setCell ⟨g, i * 2 + 1, none⟩ x.sl) := by
  subst hn
  have hrow := h.own.1.1
  have hg : W.grownBy ((W.setCell ⟨g, i * 2, none⟩ (.string x.name)).setCell ⟨g, i * 2 + 1, none⟩ x.sl) (Value.slice (some ⟨g, 0, none⟩) o.length c).ownBlock := grown_trans (grown_set W g _ _) (grown_set _ g _ _)
  refine ⟨⟨⟨?_, fun y hy => ?_⟩, ?_⟩, h.zu, fun y hy => ?_, h.kept.grown hg fun k hk => ⟨(World.ownsRow.lt hrow k hk).1, h.zu k hk⟩⟩
  · have h1 := (hrow.stored (i * 2) (.string x.name)).1
    have h2 := (h1.stored (i * 2 + 1) x.sl).1
    rw [List.length_set, cellsX_set _ _ hi]
    exact h2
  · obtain ⟨q, hq, rfl⟩ := List.mem_iff_getElem.1 hy
    rw [List.length_set] at hq
    rw [List.getElem_set]
    by_cases e : i = q
    · rw [if_pos e]; exact own_else (show W.ownsRow A 9 1 x.sl x.txt.length (x.txt.map Value.string) from hx) hrow (by decide) hg
    · rw [if_neg e]; exact own_else (h.own.1.2 _ (List.getElem_mem hq)) hrow (by decide) hg
  · exact apart_set h.own.2 hi hf
  · obtain ⟨q, hq, rfl⟩ := List.mem_iff_getElem.1 hy
    rw [List.length_set] at hq
    rw [List.getElem_set]
    by_cases e : i = q
    · rw [if_pos e]; exact hz
    · rw [if_neg e]; exact h.zo _ (List.getElem_mem hq)

/-- What a zero field is. -/
def zeroX : Fx := ⟨⟨#[]⟩, none, 0, []⟩


def encSt (x : ByteArray) : List Value := [.string x]

def KT : Kind ByteArray := ⟨9, 1, encSt, fun _ => rfl, by decide, fun x u hu => by simp [encSt] at hu; subst hu; rfl⟩

theorem own_noneX (N : Nat) (w : World) : OwnJ N w (.slice none 0 0) [] := ⟨⟨World.ownsRow_nil _ _ _ _, fun x hx => by simp at hx⟩, List.Pairwise.nil⟩

/-- Sizes that allow a copy. -/
def CopyX (d : List Fx) : Prop := d.length * 40 ≤ 140737488355328 ∧ ∀ x ∈ d, x.txt.length * 16 ≤ 140737488355328

theorem own_weakJ {N M : Nat} {w : World} {u : Value} {o : List Fx} (h : OwnJ N w u o) (hm : M ≤ N) : OwnJ M w u o := ⟨⟨own_weak h.1.1 hm, fun x hx => own_weak (h.1.2 x hx) hm⟩, h.2⟩


set_option maxHeartbeats 4000000 in
set_option maxRecDepth 100000 in
theorem fields_any (v : Value) (d : List Fx) (w : World) (hv : IsXs w v d) (hf : FitX d) (hc : CopyX d) :
    Calls Tryz.prog 27 #[v] w fun e w' => ∃ u o, e = .returned u ∧ OwnJ w.heap.size w' u o ∧ o.map Fx.fld = d.map Fx.fld ∧ Below w.heap.size w w' := by
  obtain ⟨j0, hj0, hy0, hy1, hy2⟩ := info_parts Tryz.infoFld
  obtain ⟨i0, hi0, hz0, hz1, hz2⟩ := info_parts Tryz.infoStr
  have HJ := hid hj0
  have HI := hid hi0
  obtain ⟨p, cap, rfl, hd, ht⟩ := hv
  have HD := hid hd
  have HX := hid ht
  have hl := hf.1
  unfold maxLen at hl
  have h40 := hc.1
  have H16 := hid hc.2
  clear hd ht hf hj0 hi0 hc
  go_enter Tryz.func27, Tryz.ntmps27
  go_wp2_with fail
  go_loopg [3, 4] d.length (fun g vs vi wr => ∃ (i : Nat) (o : List Fx), vi = .int .i64 i ∧ i ≤ d.length ∧ d.length - i ≤ g ∧ Hid (o.map Fx.fld = (d.take i).map Fx.fld) ∧ Hid (OwnJ w.heap.size wr vs o) ∧ Hid (Below w.heap.size w wr))
  case atStart => exact ⟨0, [], rfl, by omega, by omega, by show _ = _; simp, own_noneX _ _, Below.refl _ _⟩
  case round =>
    obtain ⟨i, o, rfl, hi, hgk, HM, HO, HB⟩ := hrel
    have hol : o.length = i := by have := congrArg List.length HM.out; simp at this; omega
    by_cases hlt : i < d.length
    · have hltz : (i : Int) < (d.length : Int) := by omega
      have hiz : (0 : Int) ≤ i := by omega
      obtain ⟨b, off, rfl, hxs⟩ : ∃ b off, p = some ⟨b, off, none⟩ ∧ XsAt w b off d := by
        rcases HD.out with h | h
        · subst h; simp at hlt
        · exact h
      have hxi : (d[i]).at w := HX.out _ (List.getElem_mem hlt)
      have hx16 := H16.out _ (List.getElem_mem hlt)
      have hcl := hxs i hlt
      have hnx : (d.take (i + 1)).map Fx.fld = (d.take i).map Fx.fld ++ [(d[i]).fld] := by
        rw [List.take_succ_eq_append_getElem hlt, List.map_append]; simp
      obtain ⟨x, hx⟩ : ∃ x, d[i] = x := ⟨_, rfl⟩
      rw [hx] at hxi hx16 hcl hnx
      obtain ⟨nm, p5, c5, ts⟩ := x
      simp only [Fx.at, Fx.sl, Fx.fld] at hxi hx16 hcl hnx
      have HNX := hid hnx
      have HXI := hid hxi
      have HCL : Hid (∀ W, Below w.heap.size w W → W.cell? ⟨b, off + i * 2, none⟩ = some (.string nm) ∧ W.cell? ⟨b, off + i * 2 + 1, none⟩ = some (.slice p5 ts.length c5)) := fun W hW =>
        ⟨(hW.cell (p := ⟨b, off + i * 2, none⟩) (cell_block hcl.1)).trans hcl.1, (hW.cell (p := ⟨b, off + i * 2 + 1, none⟩) (cell_block hcl.2)).trans hcl.2⟩
      have HOB : Hid (∀ y ∈ o, ∀ k, y.sl.ownBlock = some k → k < wr.heap.size) := fun y hy k hk => (World.ownsRow.lt (show wr.ownsRow w.heap.size 9 1 y.sl y.txt.length (y.txt.map Value.string) from HO.out.1.2 y hy) k hk).2
      have hsz := HB.out.size
      obtain ⟨M, hM⟩ : ∃ M, wr.heap.size = M := ⟨_, rfl⟩
      obtain ⟨W0, hW0⟩ : ∃ W0, wr = W0 := ⟨_, rfl⟩
      have HBW : Hid (∀ W, Below M W0 W → Below w.heap.size w W ∧ OwnJ w.heap.size W u3 o) := fun W hW => by
        rw [← hW0, ← hM] at hW
        exact ⟨bel_then HB.out hsz hW, HO.out.on hW⟩
      have HM0 : Hid (Below M W0 W0) := Below.refl _ _
      have HMS : Hid (M = W0.heap.size) := by show _ = _; rw [← hW0]; exact hM.symm
      rw [hM] at HOB hsz
      have HE0 : Hid (OwnT M W0 (.slice none 0 0) (ts.take 0)) := by show OwnT _ _ _ _; rw [List.take_zero]; exact World.ownsRow_nil _ _ _ _
      clear hxs hxi hx hcl hnx HO HB
      go_wp2_with fail
      go_loopg [5, 6] ts.length (fun g vs vj wr2 => ∃ j : Nat, vj = .int .i64 j ∧ j ≤ ts.length ∧ ts.length - j ≤ g ∧ Hid (OwnT M wr2 vs (ts.take j)) ∧ Hid (Below M W0 wr2))
      case atStart => exact ⟨0, rfl, by omega, by omega, HE0.out, HM0.out⟩
      case round =>
        clear HE0 hW0 hM
        obtain ⟨j, rfl, hj, hgj, HT, HBJ⟩ := hrel
        obtain ⟨hbw, hoj⟩ := HBW.out wr HBJ.out
        obtain ⟨e0, e1⟩ := HCL.out wr hbw
        have hszM : M ≤ wr.heap.size := by have := HBJ.out.size; have h2 := HMS.out; omega
        have htl : (ts.take j).length = j := by rw [List.length_take]; omega
        by_cases hlj : j < ts.length
        · have hljz : (j : Int) < (ts.length : Int) := by omega
          have hjz : (0 : Int) ≤ j := by omega
          obtain ⟨b2, o2, rfl, ht2⟩ : ∃ b o, p5 = some ⟨b, o, none⟩ ∧ ∀ i, (h : i < ts.length) → w.cell? ⟨b, o + i, none⟩ = some (.string ts[i]) := by
            rcases HXI.out with h | h
            · rw [h] at hlj; simp at hlj
            · exact h
          have t0 : wr.cell? ⟨b2, o2 + j, none⟩ = some (.string ts[j]) := (hbw.cell (p := ⟨b2, o2 + j, none⟩) (cell_block (ht2 j hlj))).trans (ht2 j hlj)
          have hst : ts.take (j + 1) = ts.take j ++ [ts[j]] := List.take_succ_eq_append_getElem hlj
          obtain ⟨t, hte⟩ : ∃ t, ts[j] = t := ⟨_, rfl⟩
          rw [hte] at t0 hst
          have HST := hid hst
          obtain ⟨acc, hacc⟩ : ∃ acc, ts.take j = acc := ⟨_, rfl⟩
          rw [hacc] at HT HST htl
          clear ht2 hst hte hacc hoj hbw
          go_wp2_with (at_builtin; refine wpList_append_own _ rfl _ _ 42 rfl M 9 i0 (.string ⟨#[]⟩) 1 16 Tryz.underlying42 HI.out hz0 hz1 hz2 rfl (by decide) _ _ _ rfl (World.ownsRow.alloc HT.out _) _ 1 1 [.string t] rfl rfl (fun j u hj => KT.news wr t j u hj) (by intro u hu; simp at hu; subst hu; rfl) (by unfold maxLen; omega) (by omega) (by simp; omega) ?_; intro v4 w4 hown4 hg4 hnil4; have HO4 := hid hown4; have HG4 := hid hg4; clear hown4 hg4 hnil4)
          go_roundg (ts.length - (j + 1))
          case measure => omega
          refine ⟨j + 1, by go_num, by omega, by omega, ?_, ?_⟩
          · rw [HST.out]
            show OwnT _ _ _ _
            unfold OwnT
            rw [List.length_append, List.map_append]
            exact HO4.out
          · exact (HBJ.out.alloc hszM _).grown HG4.out (by simp; omega) (fun k hk => (World.ownsRow.lt HT.out k hk).1)
        · have hljz : ¬ (j : Int) < (ts.length : Int) := by omega
          have hjt : ts.take j = ts := List.take_of_length_le (by omega)
          rw [hjt] at HT
          obtain ⟨p6, c6, hsl⟩ := own_slice HT.out
          subst hsl
          have HOJ := hid hoj
          have HBWW := hid hbw
          have hbs := hbw.size
          clear hjt htl hoj hbw
          go_wp2_with (at_builtin; refine wpList_append_own _ rfl _ _ 22 rfl w.heap.size 44 j0 (.agg #[.string ⟨#[]⟩, .slice none 0 0]) 2 40 Tryz.underlying22 HJ.out hy0 hy1 hy2 rfl (by decide) _ _ _ rfl (World.ownsRow.alloc HOJ.out.1.1 _) ⟨wr.heap.size, 0, none⟩ 1 1 (cellsX [⟨nm, p6, c6, ts⟩]) rfl rfl (news_x wr ⟨nm, p6, c6, ts⟩) (cellsX_one _) (by unfold maxLen; omega) (by omega) (by simp; omega) ?_; intro v4 w4 hown4 hg4 hnil4; have HO4 := hid hown4; have HG4 := hid hg4; clear hown4 hg4 hnil4)
          go_roundg (d.length - (i + 1))
          case measure => omega
          refine ⟨i + 1, o ++ [⟨nm, p6, c6, ts⟩], by go_num, by omega, by omega, ?_, ?_, ?_⟩
          · show _ = _
            rw [List.map_append, HM.out, HNX.out]; rfl
          · have hal := (Below.refl wr.heap.size wr).alloc (Nat.le_refl _) (.cells #[.string nm, .slice p6 ts.length c6] 44)
            exact joined_put (M := M) (HOJ.out.on hal) (show OwnT M _ (Fx.sl ⟨nm, p6, c6, ts⟩) ts from OwnT.on HT.out hal) (fun y hy k hk => HOB.out y hy k hk) hsz HO4.out HG4.out
          · exact (HBWW.out.alloc hbs _).grown HG4.out (by simp; omega) (fun k hk => (World.ownsRow.lt HOJ.out.1.1 k hk).1)
    · have hltz : ¬ (i : Int) < (d.length : Int) := by omega
      have hti : d.take i = d := List.take_of_length_le (by omega)
      rw [hti] at HM
      go_wp2_with fail
      go_ret
      exact ⟨_, rfl, o, HO.out, HM.out, HB.out⟩

end Go.Proofs.YtelcongbnmfegaaGreatDoor

/-
  The contracts of the reference's kind and with.
-/
namespace Go.Proofs.YtelcongbnmfegaaGreatDoor
open Go.RowKit

theorem kindN_58 : kindN 58 = 1 := rfl

set_option maxHeartbeats 4000000 in
set_option maxRecDepth 100000 in
theorem rkind_any (c : Int) (w : World) : Calls Tryz.prog 80 #[.int .u8 c] w fun e w' => e = .returned (.int .i64 (kindN c)) ∧ w = w' := by
  have S1 : Hid (∀ W, Calls Tryz.prog 41 #[.int .i64 1] W fun e w' => e = .returned (.string ⟨#[58, 61]⟩) ∧ W = w') := fun W => (rsign_any 1 W).mono fun e w' h => ⟨h.1, h.2.symm⟩
  have S2 : Hid (∀ W, Calls Tryz.prog 41 #[.int .i64 2] W fun e w' => e = .returned (.string ⟨#[43, 61]⟩) ∧ W = w') := fun W => (rsign_any 2 W).mono fun e w' h => ⟨h.1, h.2.symm⟩
  have S3 : Hid (∀ W, Calls Tryz.prog 41 #[.int .i64 3] W fun e w' => e = .returned (.string ⟨#[45, 61]⟩) ∧ W = w') := fun W => (rsign_any 3 W).mono fun e w' h => ⟨h.1, h.2.symm⟩
  have S4 : Hid (∀ W, Calls Tryz.prog 41 #[.int .i64 4] W fun e w' => e = .returned (.string ⟨#[126]⟩) ∧ W = w') := fun W => (rsign_any 4 W).mono fun e w' h => ⟨h.1, h.2.symm⟩
  have S5 : Hid (∀ W, Calls Tryz.prog 41 #[.int .i64 5] W fun e w' => e = .returned (.string ⟨#[61, 61]⟩) ∧ W = w') := fun W => (rsign_any 5 W).mono fun e w' h => ⟨h.1, h.2.symm⟩
  obtain ⟨r, hr⟩ : ∃ r, kindN c = r := ⟨_, rfl⟩
  rw [hr]
  have HR := hid hr
  clear hr
  go_enter Tryz.func80, Tryz.ntmps80
  go_wp2_with fail
  go_loopg [3] 6 (fun g vi wr => ∃ i : Nat, vi = .int .i64 i ∧ 1 ≤ i ∧ i ≤ 6 ∧ 6 - i ≤ g ∧ w = wr ∧ Hid ((1 < i → c ≠ 58) ∧ (2 < i → c ≠ 43) ∧ (3 < i → c ≠ 45) ∧ (4 < i → c ≠ 126) ∧ (5 < i → c ≠ 61)))
  case atStart => exact ⟨1, rfl, by omega, by omega, by omega, rfl, ⟨fun h => by omega, fun h => by omega, fun h => by omega, fun h => by omega, fun h => by omega⟩⟩
  case round =>
  obtain ⟨i, rfl, hi1, hi6, hgk, rfl, HN⟩ := hrel
  have hcs : i = 1 ∨ i = 2 ∨ i = 3 ∨ i = 4 ∨ i = 5 ∨ i = 6 := by omega
  rcases hcs with rfl | rfl | rfl | rfl | rfl | rfl
  · by_cases hc : c = 58
    · have hb : ((((⟨#[58, 61]⟩ : ByteArray)[0]'(by decide)).toNat : Int) == c) = true := by rw [hc]; rfl
      have H0 : Hid (r = 1) := by show _ = _; rw [← HR.out, hc]; rfl
      clear hc
      go_wp2_with (first | (go_at_call 41; refine (S1.out _).mono ?_; rintro e w1 ⟨rfl, rfl⟩))
      go_ret
      exact ⟨ret_int H0.out.symm, rfl⟩
    · have hb : ((((⟨#[58, 61]⟩ : ByteArray)[0]'(by decide)).toNat : Int) == c) = false := beq_eq_false_iff_ne.2 fun e => hc e.symm
      have HC := hid hc
      clear hc
      go_wp2_with (first | (go_at_call 41; refine (S1.out _).mono ?_; rintro e w1 ⟨rfl, rfl⟩))
      go_roundg 4
      case measure => omega
      case rel => exact ⟨2, rfl, by omega, by omega, by omega, rfl, ⟨fun _ => HC.out, fun h => by omega, fun h => by omega, fun h => by omega, fun h => by omega⟩⟩
  · by_cases hc : c = 43
    · have hb : ((((⟨#[43, 61]⟩ : ByteArray)[0]'(by decide)).toNat : Int) == c) = true := by rw [hc]; rfl
      have H0 : Hid (r = 2) := by show _ = _; rw [← HR.out, hc]; rfl
      clear hc
      go_wp2_with (first | (go_at_call 41; refine (S2.out _).mono ?_; rintro e w1 ⟨rfl, rfl⟩))
      go_ret
      exact ⟨ret_int H0.out.symm, rfl⟩
    · have hb : ((((⟨#[43, 61]⟩ : ByteArray)[0]'(by decide)).toNat : Int) == c) = false := beq_eq_false_iff_ne.2 fun e => hc e.symm
      have HC := hid hc
      clear hc
      go_wp2_with (first | (go_at_call 41; refine (S2.out _).mono ?_; rintro e w1 ⟨rfl, rfl⟩))
      go_roundg 3
      case measure => omega
      case rel => exact ⟨3, rfl, by omega, by omega, by omega, rfl, ⟨fun _ => HN.out.1 (by omega), fun _ => HC.out, fun h => by omega, fun h => by omega, fun h => by omega⟩⟩
  · by_cases hc : c = 45
    · have hb : ((((⟨#[45, 61]⟩ : ByteArray)[0]'(by decide)).toNat : Int) == c) = true := by rw [hc]; rfl
      have H0 : Hid (r = 3) := by show _ = _; rw [← HR.out, hc]; rfl
      clear hc
      go_wp2_with (first | (go_at_call 41; refine (S3.out _).mono ?_; rintro e w1 ⟨rfl, rfl⟩))
      go_ret
      exact ⟨ret_int H0.out.symm, rfl⟩
    · have hb : ((((⟨#[45, 61]⟩ : ByteArray)[0]'(by decide)).toNat : Int) == c) = false := beq_eq_false_iff_ne.2 fun e => hc e.symm
      have HC := hid hc
      clear hc
      go_wp2_with (first | (go_at_call 41; refine (S3.out _).mono ?_; rintro e w1 ⟨rfl, rfl⟩))
      go_roundg 2
      case measure => omega
      case rel => exact ⟨4, rfl, by omega, by omega, by omega, rfl, ⟨fun _ => HN.out.1 (by omega), fun _ => HN.out.2.1 (by omega), fun _ => HC.out, fun h => by omega, fun h => by omega⟩⟩
  · by_cases hc : c = 126
    · have hb : ((((⟨#[126]⟩ : ByteArray)[0]'(by decide)).toNat : Int) == c) = true := by rw [hc]; rfl
      have H0 : Hid (r = 4) := by show _ = _; rw [← HR.out, hc]; rfl
      clear hc
      go_wp2_with (first | (go_at_call 41; refine (S4.out _).mono ?_; rintro e w1 ⟨rfl, rfl⟩))
      go_ret
      exact ⟨ret_int H0.out.symm, rfl⟩
    · have hb : ((((⟨#[126]⟩ : ByteArray)[0]'(by decide)).toNat : Int) == c) = false := beq_eq_false_iff_ne.2 fun e => hc e.symm
      have HC := hid hc
      clear hc
      go_wp2_with (first | (go_at_call 41; refine (S4.out _).mono ?_; rintro e w1 ⟨rfl, rfl⟩))
      go_roundg 1
      case measure => omega
      case rel => exact ⟨5, rfl, by omega, by omega, by omega, rfl, ⟨fun _ => HN.out.1 (by omega), fun _ => HN.out.2.1 (by omega), fun _ => HN.out.2.2.1 (by omega), fun _ => HC.out, fun h => by omega⟩⟩
  · by_cases hc : c = 61
    · have hb : ((((⟨#[61, 61]⟩ : ByteArray)[0]'(by decide)).toNat : Int) == c) = true := by rw [hc]; rfl
      have H0 : Hid (r = 5) := by show _ = _; rw [← HR.out, hc]; rfl
      clear hc
      go_wp2_with (first | (go_at_call 41; refine (S5.out _).mono ?_; rintro e w1 ⟨rfl, rfl⟩))
      go_ret
      exact ⟨ret_int H0.out.symm, rfl⟩
    · have hb : ((((⟨#[61, 61]⟩ : ByteArray)[0]'(by decide)).toNat : Int) == c) = false := beq_eq_false_iff_ne.2 fun e => hc e.symm
      have HC := hid hc
      clear hc
      go_wp2_with (first | (go_at_call 41; refine (S5.out _).mono ?_; rintro e w1 ⟨rfl, rfl⟩))
      go_roundg 0
      case measure => omega
      case rel => exact ⟨6, rfl, by omega, by omega, by omega, rfl, ⟨fun _ => HN.out.1 (by omega), fun _ => HN.out.2.1 (by omega), fun _ => HN.out.2.2.1 (by omega), fun _ => HN.out.2.2.2.1 (by omega), fun _ => HC.out⟩⟩
  · have H0 : Hid (r = 0) := by
      show _ = _
      obtain ⟨n1, n2, n3, n4, n5⟩ := HN.out
      rw [← HR.out]
      unfold kindN
      rw [if_neg (n1 (by omega)), if_neg (n2 (by omega)), if_neg (n3 (by omega)), if_neg (n4 (by omega)), if_neg (n5 (by omega))]
    clear HN
    go_wp2_with fail
    go_ret
    exact ⟨ret_int H0.out.symm, rfl⟩

theorem withG_len (n : ByteArray) (ts : List ByteArray) (v : List Fld) : (withG n ts v).1.length + (if (withG n ts v).2 then 0 else 1) ≤ v.length + 1 := by
  induction v using snocInd with
  | h0 => unfold withG; cases ts <;> simp
  | h1 v f ih =>
    rw [withG_snoc]
    unfold withS
    generalize withG n ts v = S at ih ⊢
    obtain ⟨s, b⟩ := S
    simp only at ih ⊢
    cases b <;> cases ltB f.1 n <;> by_cases h : f.1 = n <;> simp [h] at ih ⊢ <;> omega

/-- The reference's with, on its way: what it has written. -/
def WithSt (Q : Fx → Prop) (w : World) (R : List Fld) (vr : Value) (wr : World) : Prop :=
  ∃ o : List Fx, RowX w.heap.size wr vr o ∧ (∀ x ∈ o, x.at w ∧ Q x) ∧ o.map Fx.fld = R ∧ Below w.heap.size w wr

theorem with_put {Q : Fx → Prop} {w wr w4 : World} {vr v4 : Value} {o : List Fx} {x : Fx} {R R2 : List Fld} {n : Nat} {xs : List Value} {ob : Obj} (hx : x.at w ∧ Q x) (ho : ∀ y ∈ o, y.at w ∧ Q y) (hm : o.map Fx.fld = R) (hb : Below w.heap.size w wr) (hr : RowX w.heap.size wr vr o)
    (hown : w4.ownsRow w.heap.size 44 2 v4 n xs) (hn : n = o.length + 1) (hxs : xs = cellsX o ++ cellsX [x]) (hg : (wr.alloc ob).grownBy w4 vr.ownBlock) (hR : R2 = R ++ [x.fld]) : WithSt Q w R2 v4 w4 := by
  have hsz := hb.size
  refine ⟨o ++ [x], ?_, fun y hy => ?_, by rw [List.map_append, hm, hR]; rfl, (hb.alloc hsz _).grown hg (by simp; omega) (fun k hk => (World.ownsRow.lt hr k hk).1)⟩
  · subst hn hxs
    unfold RowX
    rw [cellsX_append, List.length_append]
    exact hown
  · rcases List.mem_append.1 hy with h | h
    · exact ho y h
    · rw [List.mem_singleton.1 h]; exact hx

/-- What the reference's with answers. -/
def WithPost (Q : Fx → Prop) (w : World) (R : List Fld) (e : Ending) (w' : World) : Prop := ∃ u o, e = .returned u ∧ (RowX w.heap.size w' u o ∧ ∀ x ∈ o, x.at w' ∧ Q x) ∧ o.map Fx.fld = R ∧ Below w.heap.size w w'

set_option maxHeartbeats 8000000 in
set_option maxRecDepth 100000 in
theorem with_any (Q : Fx → Prop) (v : Value) (d : List Fx) (n : ByteArray) (p : Option Addr) (cap : Nat) (ts : List ByteArray) (w : World) (hv : IsXs w v d) (hl : d.length ≤ 1000) (ht : TxtAt w p ts) (hr : Rising (d.map Fx.fld)) (hqd : ∀ x ∈ d, Q x) (hqn : Q ⟨n, p, cap, ts⟩) :
    Calls Tryz.prog 29 #[v, .string n, .slice p ts.length cap] w fun e w' => WithPost Q w (setF (d.map Fx.fld) n ts) e w' := by
  obtain ⟨j0, hj0, hy0, hy1, hy2⟩ := info_parts Tryz.infoFld
  have HJ := hid hj0
  obtain ⟨q, c, rfl, hd, hx⟩ := hv
  have HD := hid hd
  have HX : Hid (∀ x ∈ d, x.at w ∧ Q x) := fun x h => ⟨hx x h, hqd x h⟩
  have HT : Hid (Fx.at w ⟨n, p, cap, ts⟩ ∧ Q ⟨n, p, cap, ts⟩) := ⟨ht, hqn⟩
  have HEND := hid (with_end (n := n) (ts := ts) hr)
  have HE : Hid (decide ((ts.length : Int) = 0) = ts.isEmpty) := by
    show _ = _
    cases ts <;> simp
    omega
  have HE2 : Hid (((ts.length : Int) == 0) = ts.isEmpty) := by
    show _ = _
    cases ts <;> simp
    omega
  clear hd hx ht hr hj0 hqd hqn
  have ST0 : Hid (WithSt Q w (withG n ts ((d.map Fx.fld).take 0)).1 (.slice none 0 0) w) := ⟨[], World.ownsRow_nil _ _ _ _, fun x hx => (by cases hx), by simp [withG], Below.refl _ _⟩
  go_enter Tryz.func29, Tryz.ntmps29
  go_wp2_with fail
  go_loopg [7, 8, 9] d.length (fun g vr vd vi wr => ∃ i : Nat, vi = .int .i64 i ∧ i ≤ d.length ∧ d.length - i ≤ g ∧ vd = .bool (withG n ts ((d.map Fx.fld).take i)).2 ∧ Hid (WithSt Q w (withG n ts ((d.map Fx.fld).take i)).1 vr wr))
  case atStart => exact ⟨0, rfl, by omega, by omega, by first | (rw [HE2.out]; rfl) | (rw [HE.out]; rfl), ST0⟩
  case round =>
  clear ST0 HE HE2
  obtain ⟨i, rfl, hi, hgk, rfl, HST⟩ := hrel
  by_cases hlt : i < d.length
  · have hltz : (i : Int) < (d.length : Int) := by omega
    have hiz : (0 : Int) ≤ i := by omega
    obtain ⟨b, off, rfl, hxs⟩ : ∃ b off, q = some ⟨b, off, none⟩ ∧ XsAt w b off d := by
      rcases HD.out with h | h
      · subst h; simp at hlt
      · exact h
    have hxi : (d[i]).at w ∧ Q d[i] := HX.out _ (List.getElem_mem hlt)
    have hcl := hxs i hlt
    have hnx : withG n ts ((d.map Fx.fld).take (i + 1)) = withS n ts (withG n ts ((d.map Fx.fld).take i)) (d[i]).fld := by
      rw [List.take_succ_eq_append_getElem (by simpa using hlt), withG_snoc]; simp
    have hlen := withG_len n ts ((d.map Fx.fld).take i)
    obtain ⟨x, hx⟩ : ∃ x, d[i] = x := ⟨_, rfl⟩
    rw [hx] at hxi hcl hnx
    obtain ⟨nm, p5, c5, us⟩ := x
    simp only [Fx.at, Fx.sl, Fx.fld] at hxi hcl hnx
    obtain ⟨S, hS⟩ : ∃ S, withG n ts ((d.map Fx.fld).take i) = S := ⟨_, rfl⟩
    rw [hS] at hnx HST hlen ⊢
    obtain ⟨R, B⟩ := S
    simp only at HST hlen ⊢
    have hRl : R.length ≤ 1001 := by rw [List.length_take, List.length_map] at hlen; split at hlen <;> omega
    have HNX := hid hnx
    have HXI := hid hxi
    have HCL : Hid (∀ W, Below w.heap.size w W → W.cell? ⟨b, off + i * 2, none⟩ = some (.string nm) ∧ W.cell? ⟨b, off + i * 2 + 1, none⟩ = some (.slice p5 us.length c5)) := fun W hW =>
      ⟨(hW.cell (p := ⟨b, off + i * 2, none⟩) (cell_block hcl.1)).trans hcl.1, (hW.cell (p := ⟨b, off + i * 2 + 1, none⟩) (cell_block hcl.2)).trans hcl.2⟩
    clear hxs hxi hx hcl hnx hlen hS
    obtain ⟨o, hro, hao, hmo, hbo⟩ := HST.out
    have hol : o.length ≤ 1001 := by rw [← hmo, List.length_map] at hRl; exact hRl
    obtain ⟨c0, c1⟩ := HCL.out _ hbo
    have hsz := hbo.size
    have HRO := hid hro
    have HAO := hid hao
    have HMO := hid hmo
    have HBO := hid hbo
    clear hro hao hmo hbo HST
    obtain ⟨L, hL⟩ : ∃ L, ltB nm n = L := ⟨_, rfl⟩
    have f1 := sless_of hL
    have HL := hid hL
    clear hL
    go_upto_region 6 with fail
    go_cut [29] from 13 to 49 (fun v wx => wr = wx ∧ v = .bool (!B && !L))
    case first =>
      cases B with
      | true =>
        go_wp2_with fail
        go_meet
        case rel => exact ⟨rfl, rfl⟩
      | false =>
        go_wp2_with fail
        go_meet
        case rel => exact ⟨rfl, rfl⟩
    case rest =>
    obtain ⟨rfl, rfl⟩ := hcut
    obtain ⟨T, hT⟩ : ∃ T, (!B && !L) = T := ⟨_, rfl⟩
    rw [hT]
    have HT2 := hid hT
    clear hT
    go_upto_if 29 with fail
    go_cut [7, 8] from 13 to 49 (fun vr vd wx => vd = .bool (B || !L) ∧ Hid (WithSt Q w (if B = false ∧ L = false then R ++ [(n, ts)] else R) vr wx))
    case first =>
      cases T with
      | false =>
        have HB : Hid (B = (B || !L) ∧ ¬ (B = false ∧ L = false)) := by
          have := HT2.out
          cases B <;> cases L <;> simp_all [Hid]
        go_wp2_with fail
        go_meet
        case rel => exact ⟨congrArg Value.bool HB.out.1, ⟨o, HRO.out, HAO.out, by rw [HMO.out, if_neg HB.out.2], HBO.out⟩⟩
      | true =>
        have HB : Hid (true = (B || !L) ∧ (B = false ∧ L = false)) := by
          have := HT2.out
          cases B <;> cases L <;> simp_all [Hid]
        go_wp2_with (at_builtin; refine wpList_append_own _ rfl _ _ 22 rfl w.heap.size 44 j0 (.agg #[.string ⟨#[]⟩, .slice none 0 0]) 2 40 Tryz.underlying22 HJ.out hy0 hy1 hy2 rfl (by decide) _ _ _ rfl (World.ownsRow.alloc HRO.out _) ⟨wr.heap.size, 0, none⟩ 1 1 (cellsX [⟨n, p, cap, ts⟩]) rfl rfl (news_x wr ⟨n, p, cap, ts⟩) (cellsX_one _) (by unfold maxLen; omega) (by omega) (by simp; omega) ?_; intro v4 w4 hown4 hg4 hnil4; have HO4 := hid hown4; have HG4 := hid hg4; clear hown4 hg4 hnil4)
        go_meet
        case rel => exact ⟨congrArg Value.bool HB.out.1, with_put (x := ⟨n, p, cap, ts⟩) HT.out HAO.out HMO.out HBO.out HRO.out HO4.out rfl rfl HG4.out (by rw [if_pos HB.out.2]; rfl)⟩
    case rest =>
    clear HRO HAO HMO HBO hsz hol c0 c1
    obtain ⟨rfl, HST⟩ := hcut
    obtain ⟨o, hro, hao, hmo, hbo⟩ := HST.out
    have hol : o.length ≤ 1002 := by
      have := congrArg List.length hmo
      rw [List.length_map] at this
      rw [this]
      split
      · rw [List.length_append, List.length_singleton]; omega
      · omega
    obtain ⟨c0, c1⟩ := HCL.out _ hbo
    have hsz := hbo.size
    have HRO := hid hro
    have HAO := hid hao
    have HMO := hid hmo
    have HBO := hid hbo
    clear hro hao hmo hbo HST
    by_cases hq : nm = n
    · have hqe := seq_true hq
      have HQ := hid hq
      clear hq
      go_wp2_with fail
      go_roundg (d.length - (i + 1))
      case measure => omega
      refine ⟨i + 1, by go_num, by omega, by omega, ?_, ?_⟩
      · rw [HNX.out]
        unfold withS
        rw [if_pos HQ.out, HL.out]
      · rw [HNX.out]
        unfold withS
        rw [if_pos HQ.out, HL.out]
        exact ⟨o, HRO.out, HAO.out, HMO.out, HBO.out⟩
    · have hqe := seq_false hq
      have HQ := hid hq
      clear hq
      go_wp2_with (at_builtin; refine wpList_append_own _ rfl _ _ 22 rfl w.heap.size 44 j0 (.agg #[.string ⟨#[]⟩, .slice none 0 0]) 2 40 Tryz.underlying22 HJ.out hy0 hy1 hy2 rfl (by decide) _ _ _ rfl (World.ownsRow.alloc HRO.out _) ⟨wc.heap.size, 0, none⟩ 1 1 (cellsX [⟨nm, p5, c5, us⟩]) rfl rfl (news_x wc ⟨nm, p5, c5, us⟩) (cellsX_one _) (by unfold maxLen; omega) (by omega) (by simp; omega) ?_; intro v4 w4 hown4 hg4 hnil4; have HO4 := hid hown4; have HG4 := hid hg4; clear hown4 hg4 hnil4)
      go_roundg (d.length - (i + 1))
      case measure => omega
      refine ⟨i + 1, by go_num, by omega, by omega, ?_, ?_⟩
      · rw [HNX.out]
        unfold withS
        rw [if_neg HQ.out, HL.out]
      · rw [HNX.out]
        unfold withS
        rw [if_neg HQ.out, HL.out]
        exact with_put (x := ⟨nm, p5, c5, us⟩) HXI.out HAO.out HMO.out HBO.out HRO.out HO4.out rfl rfl HG4.out rfl
  · have hltz : ¬ (i : Int) < (d.length : Int) := by omega
    have hti : (d.map Fx.fld).take i = d.map Fx.fld := List.take_of_length_le (by rw [List.length_map]; omega)
    have hlen := withG_len n ts (d.map Fx.fld)
    rw [hti] at HST ⊢
    clear hti
    obtain ⟨S, hS⟩ : ∃ S, withG n ts (d.map Fx.fld) = S := ⟨_, rfl⟩
    rw [hS] at HST HEND hlen ⊢
    obtain ⟨R, B⟩ := S
    simp only at HST HEND hlen ⊢
    have hRl : R.length ≤ 1001 := by rw [List.length_map] at hlen; split at hlen <;> omega
    clear hS hlen
    obtain ⟨o, hro, hao, hmo, hbo⟩ := HST.out
    have hol : o.length ≤ 1001 := by rw [← hmo, List.length_map] at hRl; exact hRl
    have hsz := hbo.size
    have HRO := hid hro
    have HAO := hid hao
    have HMO := hid hmo
    have HBO := hid hbo
    clear hro hao hmo hbo HST
    cases B with
    | true =>
      go_wp2_with fail
      go_ret
      refine ⟨_, o, rfl, ⟨HRO.out, fun x hx => ⟨(HAO.out x hx).1.kept HBO.out, (HAO.out x hx).2⟩⟩, ?_, HBO.out⟩
      rw [HMO.out]
      simpa using HEND.out
    | false =>
      go_wp2_with (at_builtin; refine wpList_append_own _ rfl _ _ 22 rfl w.heap.size 44 j0 (.agg #[.string ⟨#[]⟩, .slice none 0 0]) 2 40 Tryz.underlying22 HJ.out hy0 hy1 hy2 rfl (by decide) _ _ _ rfl (World.ownsRow.alloc HRO.out _) ⟨wr.heap.size, 0, none⟩ 1 1 (cellsX [⟨n, p, cap, ts⟩]) rfl rfl (news_x wr ⟨n, p, cap, ts⟩) (cellsX_one _) (by unfold maxLen; omega) (by omega) (by simp; omega) ?_; intro v4 w4 hown4 hg4 hnil4; have HO4 := hid hown4; have HG4 := hid hg4; clear hown4 hg4 hnil4)
      go_ret
      obtain ⟨o2, r2, a2, m2, b2⟩ := with_put (Q := Q) (x := ⟨n, p, cap, ts⟩) (R2 := R ++ [(n, ts)]) HT.out HAO.out HMO.out HBO.out HRO.out HO4.out rfl rfl HG4.out rfl
      refine ⟨_, o2, rfl, ⟨r2, fun x hx => ⟨(a2 x hx).1.kept b2, (a2 x hx).2⟩⟩, ?_, b2⟩
      rw [m2]
      simpa using HEND.out

end Go.Proofs.YtelcongbnmfegaaGreatDoor

/-
  The contract of the reference's Apply.
-/
namespace Go.Proofs.YtelcongbnmfegaaGreatDoor
open Go.RowKit

/-- Two rows of texts of the call's own, apart. -/
def TwoT (M : Nat) (W : World) (a b : Value) (ta tb : List ByteArray) : Prop := OwnT M W a ta ∧ OwnT M W b tb ∧ ∀ k, a.ownBlock = some k → b.ownBlock ≠ some k

theorem TwoT.turn {M : Nat} {W : World} {a b : Value} {ta tb : List ByteArray} (h : TwoT M W a b ta tb) : TwoT M W b a tb ta := ⟨h.2.1, h.1, fun k hk e => h.2.2 k e hk⟩

theorem TwoT.none (M : Nat) (W : World) : TwoT M W (.slice none 0 0) (.slice none 0 0) [] [] := ⟨World.ownsRow_nil _ _ _ _, World.ownsRow_nil _ _ _ _, fun k hk => by cases hk⟩

theorem TwoT.put {M : Nat} {W w4 : World} {a b v4 : Value} {ta tb : List ByteArray} {t : ByteArray} {ob : Obj} {n : Nat} {xs : List Value} (h : TwoT M W a b ta tb)
    (hown : w4.ownsRow M 9 1 v4 n xs) (hn : n = ta.length + 1) (hxs : xs = ta.map Value.string ++ [.string t]) (hg : (W.alloc ob).grownBy w4 a.ownBlock) (hat : v4.ownBlock = a.ownBlock ∨ v4.ownBlock = some (W.alloc ob).heap.size) : TwoT M w4 v4 b (ta ++ [t]) tb := by
  subst hn hxs
  have hb2 := World.ownsRow.alloc h.2.1 ob
  refine ⟨?_, own_same hb2 fun k hk => ?_, fun k hk e => ?_⟩
  · show w4.ownsRow _ _ _ _ _ _
    rw [List.length_append, List.map_append]
    exact hown
  · have hlt := (World.ownsRow.lt hb2 k hk).2
    exact hg.block k hlt fun e => h.2.2 k e.symm hk
  · rcases hat with hat | hat
    · exact h.2.2 k (hat ▸ hk) e
    · have hlt := (World.ownsRow.lt hb2 k e).2
      rw [hat] at hk
      injection hk with hk
      omega

theorem TwoT.on {M : Nat} {W W' : World} {a b : Value} {ta tb : List ByteArray} (h : TwoT M W a b ta tb) (hb : Below W.heap.size W W') : TwoT M W' a b ta tb := ⟨OwnT.on h.1 hb, OwnT.on h.2.1 hb, h.2.2⟩

theorem do_drop (r : List Fld) (n t : ByteArray) : doE r (3, n, t) = if (restT (textsOf r n) t).length < (textsOf r n).length then (0, setF r n (restT (textsOf r n) t)) else (6, []) := by unfold doE; simp
theorem do_test (r : List Fld) (n t : ByteArray) : doE r (5, n, t) = if (restT (textsOf r n) t).length < (textsOf r n).length then (0, r) else (13, []) := by unfold doE; simp

theorem okR_fit {k : Nat} {o : List Fx} (h : OkR k (o.map Fx.fld)) (hk : k ≤ 1000) : FitX o := by
  refine ⟨?_, fun x hx => ?_⟩
  · have := h.len
    rw [List.length_map] at this
    unfold maxLen; omega
  · obtain ⟨h1, h2, h3⟩ := h.each x.fld (List.mem_map.2 ⟨x, hx, rfl⟩)
    have h4 : x.fld.1.size ≤ 32 := by simpa using fieldB_len h1
    exact ⟨by unfold maxLen; omega, by unfold maxLen; omega, fun t ht => by have := h3 t ht; unfold maxLen; omega⟩

theorem may_copyE {o : List Fx} (h : mayB (o.map Fx.fld) = true) : CopyX o := by
  have h1 := okR_may h
  refine ⟨?_, fun x hx => ?_⟩
  · have := h1.len
    rw [List.length_map] at this
    omega
  · obtain ⟨_, h2, _⟩ := h1.each x.fld (List.mem_map.2 ⟨x, hx, rfl⟩)
    have h3 : x.txt.length ≤ 8 := h2
    omega

theorem may_fitE {o : List Fx} (h : mayB (o.map Fx.fld) = true) : FitX o := okR_fit (okR_may h) (by omega)

/-- A field's texts, and a value's row, lie at N or behind it. -/
def Far (N : Nat) (x : Fx) : Prop := ∀ b off, x.p = some ⟨b, off, none⟩ → N ≤ b
def FarV (N : Nat) (v : Value) (o : List Fx) : Prop := (∀ b off n c, v = .slice (some ⟨b, off, none⟩) n c → N ≤ b) ∧ ∀ x ∈ o, Far N x

theorem far_own {N M : Nat} {W : World} {p : Option Addr} {n c m : Nat} {e : TypeId} {k : Nat} {xs : List Value} (h : W.ownsRow N e k (.slice p n c) m xs) (hM : M ≤ N) : ∀ b off, p = some ⟨b, off, none⟩ → M ≤ b := fun b off hp => by
  subst hp
  rcases h.2 with ⟨hv, _⟩ | ⟨g, cap, cur, hv, hg, _⟩
  · cases hv
  · cases hv
    exact Nat.le_trans hM hg

theorem farV_row {N M : Nat} {W : World} {v : Value} {o : List Fx} (h : RowX N W v o) (hM : M ≤ N) (ho : ∀ x ∈ o, Far M x) : FarV M v o := ⟨fun b off n c hv => by
  subst hv
  exact far_own h hM b off rfl, ho⟩

theorem farV_own {N M : Nat} {W : World} {v : Value} {o : List Fx} (h : OwnJ N W v o) (hM : M ≤ N) : FarV M v o := farV_row h.1.1 hM fun x hx => far_own (h.1.2 x hx) hM

/-- The reference's Apply, on its way: i edits are done. -/
def ASt (w : World) (V : List Fld) (l : List Ed) (i : Nat) (vr : Value) (wr : World) : Prop :=
  ∃ o : List Fx, IsXs wr vr o ∧ FarV w.heap.size vr o ∧ OkR i (o.map Fx.fld) ∧ runE V l = runE (o.map Fx.fld) (l.drop i) ∧ Below w.heap.size w wr

theorem ast_go {w w5 : World} {V R R2 : List Fld} {l : List Ed} {i : Nat} {x : Ed} {u : Value} {o2 : List Fx} (hd : l.drop i = x :: l.drop (i + 1)) (hn : namedE x = true) (hs : shortE x = true) (hok : OkR i R)
    (hrun : runE V l = runE R (l.drop i)) (he : doE R x = (0, R2)) (hi2 : IsXs w5 u o2) (hfv : FarV w.heap.size u o2) (hm : o2.map Fx.fld = R2) (hb : Below w.heap.size w w5) : ASt w V l (i + 1) u w5 := by
  have h0 : (doE R x).1 = 0 := by rw [he]
  refine ⟨o2, hi2, hfv, ?_, ?_, hb⟩
  · have := okR_do hok hn hs h0
    rw [he] at this
    rw [hm]
    exact this
  · rw [hrun, hd, runE, if_pos h0, he, hm]

theorem run_stop {V R : List Fld} {l : List Ed} {i : Nat} {x : Ed} {c : Int} (hd : l.drop i = x :: l.drop (i + 1)) (hrun : runE V l = runE R (l.drop i)) (he : doE R x = (c, [])) (hc : c ≠ 0) : (runE V l).1 = c := by
  rw [hrun, hd, runE, if_neg (by rw [he]; exact hc), he]

theorem codeA_run {V : List Fld} {l : List Ed} (h1 : mayB V = true) (h2 : mayE l = 0) (h3 : (runE V l).1 ≠ 0) : codeA V l = (runE V l).1 := by
  unfold codeA
  rw [if_neg (by rw [h1]; decide), if_neg (by rw [h2]; decide), if_pos h3]

theorem codeA_field {V : List Fld} {l : List Ed} (h : mayB V = false) : codeA V l = 3 := by unfold codeA; rw [if_pos h]
theorem codeA_may {V : List Fld} {l : List Ed} (h : mayB V = true) (h2 : mayE l ≠ 0) : codeA V l = mayE l := by unfold codeA; rw [if_neg (by rw [h]; decide), if_pos h2]
theorem codeA_long {V : List Fld} {l : List Ed} (h1 : mayB V = true) (h2 : mayE l = 0) (h3 : (runE V l).1 = 0) (h4 : mayB (runE V l).2 = false) : codeA V l = 5 := by
  unfold codeA
  rw [if_neg (by rw [h1]; decide), if_neg (by rw [h2]; decide), if_neg (by rw [h3]; decide), if_pos h4]

theorem ansA_none {V : List Fld} {l : List Ed} (h : codeA V l ≠ 0) : ansA V l = [] := by unfold ansA; rw [if_neg h]

/-- What Apply answers. -/
def ApPost (w : World) (V : List Fld) (l : List Ed) (e : Ending) (w' : World) : Prop :=
  ∃ u o, e = .returned (.tuple #[u, .int .i64 (codeA V l)]) ∧ IsXs w' u o ∧ o.map Fx.fld = ansA V l ∧ Below w.heap.size w w'

/-- What the reference's Apply answers, and where that lies. -/
def ApFar (w : World) (V : List Fld) (l : List Ed) (e : Ending) (w' : World) : Prop :=
  ∃ u o, e = .returned (.tuple #[u, .int .i64 (codeA V l)]) ∧ (IsXs w' u o ∧ FarV w.heap.size u o) ∧ o.map Fx.fld = ansA V l ∧ Below w.heap.size w w'

theorem ApFar.plain {w : World} {V : List Fld} {l : List Ed} {e : Ending} {w' : World} (h : ApFar w V l e w') : ApPost w V l e w' := by
  obtain ⟨u, o, h1, h2, h3⟩ := h
  exact ⟨u, o, h1, h2.1, h3⟩

theorem txt_oneAt (w : World) (t : ByteArray) : TxtAt (w.alloc (.cells #[.string t] 9)) (some ⟨w.heap.size, 0, none⟩) [t] := Or.inr ⟨w.heap.size, 0, rfl, fun i hi => by
  obtain rfl : i = 0 := by simpa using hi
  rw [cell_of_row _ _ _ _ _ _ (heap_alloc_new w _)]
  rfl⟩

theorem isXs_none (w : World) : IsXs w (.slice none 0 0) [] := ⟨none, 0, rfl, Or.inl rfl, fun x hx => by cases hx⟩

theorem ap_no {w w' : World} {V : List Fld} {l : List Ed} {c : Int} {e : Ending} (hc : codeA V l = c) (h0 : c ≠ 0) (he : e = .returned (.tuple #[.slice none 0 0, .int .i64 c])) (hb : Below w.heap.size w w') : ApFar w V l e w' :=
  ⟨_, [], by rw [he, hc], ⟨isXs_none _, fun b off n c hv => (by cases hv), fun x hx => (by cases hx)⟩, by rw [ansA_none (by rw [hc]; exact h0)]; rfl, hb⟩

end Go.Proofs.YtelcongbnmfegaaGreatDoor

/-
  The contracts of what an edit does to a value: one closure a kind.
-/
namespace Go.Proofs.YtelcongbnmfegaaGreatDoor
open Go.RowKit Go.Lib

/-- What a closure answers: the edit's error, and what comes out, in memory of the call's own. -/
def DeedPost (N : Nat) (w : World) (R : List Fld) (x : Ed) (e : Ending) (w' : World) : Prop :=
  ∃ u o', e = .returned (.tuple #[u, .int .i64 (doE R x).1]) ∧ OwnJ N w' u o' ∧ o'.map Fx.fld = (doE R x).2 ∧ Below N w w'

theorem deed_of {N : Nat} {w w' : World} {R R2 : List Fld} {x : Ed} {c : Int} {u : Value} {o' : List Fx} {e : Ending} (hd : doE R x = (c, R2)) (he : e = .returned (.tuple #[u, .int .i64 c])) (h1 : OwnJ N w' u o') (h2 : o'.map Fx.fld = R2) (h3 : Below N w w') : DeedPost N w R x e w' :=
  ⟨u, o', by rw [he, hd], h1, by rw [h2, hd], h3⟩

theorem ownJ_none (N : Nat) (w : World) : OwnJ N w (.slice none 0 0) [] := ⟨⟨World.ownsRow_nil _ _ _ _, fun x hx => by cases hx⟩, List.Pairwise.nil⟩

/-- A row that was made behind the value lies apart from it. -/
theorem apart_new {N : Nat} {w : World} {v t : Value} {o : List Fx} (hv : OwnJ N w v o) (ht : ∀ k, t.ownBlock = some k → w.heap.size ≤ k) : ∀ y ∈ o, y.sl.ownBlock = none ∨ y.sl.ownBlock ≠ t.ownBlock := fun y hy => by
  cases hb : y.sl.ownBlock with
  | none => exact Or.inl rfl
  | some k =>
    right
    intro e
    have h1 := (World.ownsRow.lt (hv.1.2 y hy) k hb).2
    have h2 := ht k e.symm
    omega

theorem box_row {N : Nat} {w : World} {v : Value} {o : List Fx} {g : Nat} {x : Ed} (hv : OwnJ N w v o) (hb : BoxE w g x) : some g ≠ v.ownBlock := fun e => by
  obtain ⟨cs, h⟩ := own_type hv.1.1 e.symm
  unfold BoxE at hb
  rw [hb] at h
  injection h with h
  injection h with _ h
  exact absurd h (by decide)

theorem BoxE.grown {N : Nat} {w w' : World} {v : Value} {o : List Fx} {g : Nat} {x : Ed} (hb : BoxE w g x) (hv : OwnJ N w v o) (hg : w.grownBy w' v.ownBlock) : BoxE w' g x := (hg.block g hb.lt (box_row hv hb)).trans hb

theorem okR_len {k : Nat} {o : List Fx} (h : OkR k (o.map Fx.fld)) : o.length ≤ 16 + k := by have := h.len; rwa [List.length_map] at this

theorem okR_16 {k : Nat} {o : List Fx} (h : OkR k (o.map Fx.fld)) (hk : k ≤ 1000) : ∀ x ∈ o, x.txt.length * 16 ≤ 140737488355328 := fun x hx => by
  have := (h.each x.fld (List.mem_map.2 ⟨x, hx, rfl⟩)).2.1
  have h2 : x.txt.length ≤ 8 + k := this
  omega

theorem own_lit1 {N : Nat} (w : World) (t : ByteArray) (hN : N ≤ w.heap.size) : OwnT N (w.alloc (.cells #[.string t] 9)) (.slice (some ⟨w.heap.size, 0, none⟩) 1 1) [t] :=
  World.ownsRow_lit w #[.string t] 1 hN (by decide) rfl

set_option maxHeartbeats 2000000 in
set_option maxRecDepth 100000 in
theorem deed1_any (N g k : Nat) (v : Value) (o : List Fx) (n t : ByteArray) (w : World) (hv : OwnJ N w v o) (hok : OkR k (o.map Fx.fld)) (hk : k ≤ 1000) (hb : BoxE w g (1, n, t)) (hN : N ≤ w.heap.size) :
    Calls Tryz.prog 52 #[v, .pointer (some ⟨g, 0, none⟩)] w fun e w' => DeedPost N w (o.map Fx.fld) (1, n, t) e w' := by
  obtain ⟨c0, c1, c2⟩ := hb.cells
  simp only at c0 c1 c2
  obtain ⟨W, hW⟩ : ∃ W, w.alloc (.cells #[.string t] 9) = W := ⟨_, rfl⟩
  have hbW : Below w.heap.size w W := by rw [← hW]; exact (Below.refl _ _).alloc (Nat.le_refl _) _
  have hvW := hv.on hbW
  have HW := hid (pwith_any N v (.slice (some ⟨w.heap.size, 0, none⟩) 1 1) n [t] o W hvW hok.rise (by have := okR_len hok; omega) (by rw [← hW]; exact own_lit1 w t hN) (by simp) (apart_new hv (fun k e => by cases e; exact Nat.le_refl _)) (Nat.le_trans hN hbW.size))
  have HVW := hid hvW
  have HBW := hid hbW
  have HD := hid (do_set (o.map Fx.fld) n t)
  have HN := hid hN
  clear hv hok hb hbW hvW hN
  go_enter Tryz.func52, Tryz.ntmps52
  go_wp2_with fail
  refine HW.out.mono ?_
  rintro e w1 ⟨u, o', rfl, h1, h2, h3⟩
  have H1 := hid h1
  have H2 := hid h2
  have H3 := hid h3
  clear h1 h2 h3
  go_wp2_with fail
  go_ret2
  exact deed_of HD.out rfl H1.out H2.out ((HBW.out.mono HN.out).trans (bel_grown HVW.out (Nat.le_trans HN.out HBW.out.size) H3.out))

set_option maxHeartbeats 2000000 in
set_option maxRecDepth 100000 in
theorem deed4_any (N g k : Nat) (v : Value) (o : List Fx) (n t : ByteArray) (w : World) (hv : OwnJ N w v o) (hok : OkR k (o.map Fx.fld)) (hk : k ≤ 1000) (hb : BoxE w g (4, n, t)) (hN : N ≤ w.heap.size) :
    Calls Tryz.prog 59 #[v, .pointer (some ⟨g, 0, none⟩)] w fun e w' => DeedPost N w (o.map Fx.fld) (4, n, t) e w' := by
  obtain ⟨c0, c1, c2⟩ := hb.cells
  simp only at c0 c1 c2
  have HW := hid (pwith_any N v (.slice none 0 0) n [] o w hv hok.rise (by have := okR_len hok; omega) (World.ownsRow_nil _ _ _ _) (by simp) (apart_new hv (fun k e => by cases e)) hN)
  have HV := hid hv
  have HD := hid (do_wipe (o.map Fx.fld) n t)
  have HN := hid hN
  clear hv hok hb hN
  go_enter Tryz.func59, Tryz.ntmps59
  go_wp2_with fail
  refine HW.out.mono ?_
  rintro e w1 ⟨u, o', rfl, h1, h2, h3⟩
  have H1 := hid h1
  have H2 := hid h2
  have H3 := hid h3
  clear h1 h2 h3
  go_wp2_with fail
  go_ret2
  exact deed_of HD.out rfl H1.out H2.out (bel_grown HV.out HN.out H3.out)

end Go.Proofs.YtelcongbnmfegaaGreatDoor

/-
  The contracts of slices.Contains and slices.DeleteFunc of texts, and of the closures that drop a text, and test for one.
-/
namespace Go.Proofs.YtelcongbnmfegaaGreatDoor
open Go.RowKit Go.Lib Go.Sort

theorem hasT_any (p : Option Addr) (c : Nat) (ts : List ByteArray) (r : ByteArray) (w : World) (h : TxtAt w p ts) (hl : ts.length ≤ maxLen) :
    Calls Tryz.prog 56 #[.slice p ts.length c, .string r] w fun e w' => e = .returned (.bool (ts.any fun t => decide (t = r))) ∧ w' = w := by
  rcases h with rfl | ⟨b, off, rfl, hc⟩
  · exact Any.slices_Contains_string_empty Tryz.laysContains p c r w
  · unfold maxLen at hl
    have := Any.slices_Contains_string Tryz.laysContains b off ts.length c ts r w (Nat.le_refl _) (by omega) (fun j hj => by
      rw [hc j hj, List.getD_eq_getElem?_getD, List.getElem?_eq_getElem hj]
      rfl)
    change Calls Tryz.prog 56 _ _ _ at this
    refine this.mono ?_
    rintro e w' ⟨rfl, rfl⟩
    refine ⟨ret_bool ?_, rfl⟩
    rw [List.take_length, Bool.eq_iff_iff, Lib.containsS_iff, List.any_eq_true]
    constructor
    · intro h; exact ⟨r, h, by simp⟩
    · rintro ⟨t, ht, e⟩; rw [← of_decide_eq_true e]; exact ht

theorem rest_lt (ts : List ByteArray) (t : ByteArray) : ((restT ts t).length < ts.length) ↔ (ts.any fun u => decide (u = t)) = true := by
  unfold restT
  rw [List.length_filter_lt_length_iff_exists, List.any_eq_true]
  constructor
  · rintro ⟨x, hx, h⟩
    exact ⟨x, hx, by simpa using h⟩
  · rintro ⟨x, hx, h⟩
    exact ⟨x, hx, by simpa using h⟩

set_option maxHeartbeats 1000000 in
theorem gone_gives (g : Nat) (t x : ByteArray) (W : World) (hc : W.cell? ⟨g, 2, none⟩ = some (.string t)) :
    FnGives Tryz.prog 58 #[.pointer (some ⟨g, 0, none⟩)] #[.string x] (.bool (decide (x = t))) W := by
  show Calls Tryz.prog 58 #[.string x, .pointer (some ⟨g, 0, none⟩)] W _
  have HE : Hid ((x.toList == t.toList) = decide (x = t)) := toList_eq x t
  go_enter Tryz.func58, Tryz.ntmps58
  go_wp2_with fail
  go_ret
  exact ⟨ret_bool HE.out, 0, rfl⟩

theorem enters_gone : ∀ args w, (callFunc 58 args).run Tryz.prog w = .ok (.enter 58 args) w := enters_of Tryz.func58 (by kernel_rfl) rfl

theorem grownBy_putRow {w : World} {g q : Nat} {d : Array ByteArray} : w.grownBy (putRow Value.string (Sort.ahead w q) g 0 d) (some g) :=
  ⟨rfl, rfl, rfl, by simp [putRow, mapBlock, Sort.ahead], fun k _ hne => by
    have : g ≠ k := fun e => hne (by rw [e])
    simp [putRow, mapBlock, Sort.ahead, Array.getElem?_modify, this]⟩

theorem delT_any (M g : Nat) (tv : Value) (ts : List ByteArray) (t : ByteArray) (w : World) (h : OwnT M w tv ts) (h0 : ts ≠ []) (hl : ts.length ≤ 1000000) (hM : M ≤ w.heap.size) (hg : g < M) (hc : w.cell? ⟨g, 2, none⟩ = some (.string t)) :
    Calls Tryz.prog 57 #[tv, .func (.func 58) #[] #[.pointer (some ⟨g, 0, none⟩)]] w fun e w' => ∃ p c, e = .returned (.slice p (restT ts t).length c) ∧ OwnT M w' (.slice p (restT ts t).length c) (restT ts t) ∧ Below M w w' := by
  rcases h.2 with ⟨_, hz⟩ | ⟨b, cap, cur, rfl, hb, hgb, hn, hm, hs, ht⟩
  · exact absurd (List.length_eq_zero_iff.1 hz) h0
  · obtain ⟨g', cap', e0, _, hgl, hnc, hcm, _, hH⟩ := holds_of_ownsRow (enc := Value.string) h (by simp)
    injection e0 with e1 _ e3
    injection e1 with e1
    injection e1 with e1
    subst e1 e3
    have hgM : g < w.heap.size := by omega
    have hne : g ≠ b := by omega
    have hd := AnyE.slices_DeleteFunc Tryz.delStr Value.string (fun _ => rfl) (fun x => decide (x = t)) 58 #[.pointer (some ⟨g, 0, none⟩)] enters_gone ⟨#[]⟩ Tryz.zeroValue9 b 0 cap ts.toArray w
      (fun W x hbW => gone_gives g t x W ((hbW.cell (p := ⟨g, 2, none⟩) hgM).trans hc))
      (fun n os dk x _ => gone_gives g t x _ (by
        unfold sortWorld
        rw [cell?_grow _ _ _ (by show g < (putRow _ _ _ _ _).heap.size; rw [size_putRow]; exact hgM), cell?_putRow_other _ _ b 0 _ _ (Or.inl hne)]
        exact hc)) hH (by simp; omega) (by simpa using hn)
    change Calls Tryz.prog 57 _ _ _ at hd
    refine hd.mono ?_
    rintro e w' ⟨rfl, q, rfl⟩
    have hfl : (restT ts t).length ≤ ts.length := rest_len ts t
    refine ⟨some ⟨b, 0, none⟩, cap, rfl, ?_, (Below.refl _ _).grown grownBy_putRow hM (fun k e => by cases e; exact hb)⟩
    have := ownsRow_putRow (enc := Value.string) (q := q) (k := (restT ts t).length) (ys := restT ts t ++ List.replicate (ts.length - (restT ts t).length) ⟨#[]⟩) h (by simp; omega) hfl
    rw [List.take_left] at this
    exact this

set_option maxHeartbeats 2000000 in
set_option maxRecDepth 100000 in
theorem deed3_any (N g k : Nat) (v : Value) (o : List Fx) (n t : ByteArray) (w : World) (hv : OwnJ N w v o) (hok : OkR k (o.map Fx.fld)) (hk : k ≤ 1000) (hb : BoxE w g (3, n, t)) (hN : N ≤ w.heap.size) :
    Calls Tryz.prog 55 #[v, .pointer (some ⟨g, 0, none⟩)] w fun e w' => DeedPost N w (o.map Fx.fld) (3, n, t) e w' := by
  obtain ⟨c0, c1, c2⟩ := hb.cells
  simp only at c0 c1 c2
  have HTX := hid (texts_any v n o w hv.1.is (okR_fit hok hk) (okR_16 hok hk))
  have htl := (okR_texts hok n).1
  have hdo := do_drop (o.map Fx.fld) n t
  obtain ⟨ts, hts⟩ : ∃ ts, textsOf (o.map Fx.fld) n = ts := ⟨_, rfl⟩
  rw [hts] at HTX htl hdo
  have HV := hid hv
  have HOK := hid hok
  have HBX := hid hb
  have HN := hid hN
  have hgl := hb.lt
  have HC : Hid (∀ W, Below w.heap.size w W → W.cell? ⟨g, 1, none⟩ = some (.string n) ∧ W.cell? ⟨g, 2, none⟩ = some (.string t)) := fun W h => ⟨(HBX.out.on h).cells.2.1, (HBX.out.on h).cells.2.2⟩
  clear hv hok hb hN hts
  cases hq : ts.any fun u => decide (u = t) with
  | false =>
    have HD : Hid (doE (o.map Fx.fld) (3, n, t) = (6, [])) := by
      show _ = _
      rw [hdo, if_neg (fun h => by rw [(rest_lt ts t).1 h] at hq; cases hq)]
    clear hdo
    go_enter Tryz.func55, Tryz.ntmps55
    go_wp2_with fail
    refine HTX.out.mono ?_
    rintro e w1 ⟨⟨tv, rfl, hot⟩, hb1⟩
    obtain ⟨tp, tc, rfl⟩ := own_slice hot
    obtain ⟨d1, d2⟩ := HC.out _ hb1
    have HH := hid (hasT_any tp tc ts t w1 hot.txtAt (by unfold maxLen; omega))
    rw [hq] at HH
    have HB1 := hid hb1
    clear hot hb1
    go_wp2_with fail
    refine HH.out.mono ?_
    rintro e w2 ⟨rfl, rfl⟩
    go_wp2_with fail
    go_ret2
    exact deed_of HD.out rfl (ownJ_none _ _) rfl (HB1.out.mono HN.out)
  | true =>
    have HD : Hid (doE (o.map Fx.fld) (3, n, t) = (0, setF (o.map Fx.fld) n (restT ts t))) := by
      show _ = _
      rw [hdo, if_pos ((rest_lt ts t).2 hq)]
    have hne0 : ts ≠ [] := fun e => by rw [e] at hq; cases hq
    have HRL := hid (rest_len ts t)
    clear hdo
    go_enter Tryz.func55, Tryz.ntmps55
    go_wp2_with fail
    refine HTX.out.mono ?_
    rintro e w1 ⟨⟨tv, rfl, hot⟩, hb1⟩
    obtain ⟨tp, tc, rfl⟩ := own_slice hot
    obtain ⟨d1, d2⟩ := HC.out _ hb1
    have HH := hid (hasT_any tp tc ts t w1 hot.txtAt (by unfold maxLen; omega))
    rw [hq] at HH
    have HDL := hid (delT_any w.heap.size g _ ts t w1 hot hne0 (by omega) hb1.size hgl d2)
    have HB1 := hid hb1
    clear hot hb1 hne0
    go_wp2_with fail
    refine HH.out.mono ?_
    rintro e w2 ⟨rfl, rfl⟩
    go_wp2_with fail
    refine HDL.out.mono ?_
    rintro e w3 ⟨p3, c3, rfl, ho3, hb3⟩
    have hb13 : Below w.heap.size w w3 := HB1.out.trans hb3
    obtain ⟨d3, d4⟩ := HC.out _ hb13
    have hv3 := HV.out.on hb13
    have HW := hid (pwith_any N v _ n (restT ts t) o w3 hv3 HOK.out.rise (by have := okR_len HOK.out; omega) (own_weak ho3 HN.out) (by have := HRL.out; omega) (apart_new HV.out (fun k e => (World.ownsRow.lt ho3 k e).1)) (Nat.le_trans HN.out hb13.size))
    have HV3 := hid hv3
    have HB13 := hid hb13
    obtain ⟨rl, hrl⟩ : ∃ rl, (restT ts t).length = rl := ⟨_, rfl⟩
    rw [hrl] at HW ⊢
    clear ho3 hb3 hb13 hv3 hrl
    go_wp2_with fail
    refine HW.out.mono ?_
    rintro e w4 ⟨u, o', rfl, h1, h2, h3⟩
    have H1 := hid h1
    have H2 := hid h2
    have H3 := hid h3
    clear h1 h2 h3
    go_wp2_with fail
    go_ret2
    exact deed_of HD.out rfl H1.out H2.out ((HB13.out.mono HN.out).trans (bel_grown HV3.out (Nat.le_trans HN.out HB13.out.size) H3.out))

end Go.Proofs.YtelcongbnmfegaaGreatDoor

/-
  The contracts of the closures that test for a text, and add one; of deedOf.
-/
namespace Go.Proofs.YtelcongbnmfegaaGreatDoor
open Go.RowKit Go.Lib

set_option maxHeartbeats 2000000 in
set_option maxRecDepth 100000 in
theorem deed5_any (N g k : Nat) (v : Value) (o : List Fx) (n t : ByteArray) (w : World) (hv : OwnJ N w v o) (hok : OkR k (o.map Fx.fld)) (hk : k ≤ 1000) (hb : BoxE w g (5, n, t)) (hN : N ≤ w.heap.size) :
    Calls Tryz.prog 60 #[v, .pointer (some ⟨g, 0, none⟩)] w fun e w' => DeedPost N w (o.map Fx.fld) (5, n, t) e w' := by
  have HTX : Hid (∀ m, Calls Tryz.prog 37 #[v, .string n] (w.drewN m) fun e w' => TxPost (w.drewN m) (textsOf (o.map Fx.fld) n) e w') := fun m => texts_any v n o (w.drewN m) (hv.on (belE_drew (Below.refl _ _) m)).1.is (okR_fit hok hk) (okR_16 hok hk)
  have htl := (okR_texts hok n).1
  have hdo := do_test (o.map Fx.fld) n t
  obtain ⟨ts, hts⟩ : ∃ ts, textsOf (o.map Fx.fld) n = ts := ⟨_, rfl⟩
  rw [hts] at HTX htl hdo
  have HV := hid hv
  have HBX := hid hb
  have HN := hid hN
  have HC : Hid (∀ W, Below w.heap.size w W → W.cell? ⟨g, 1, none⟩ = some (.string n) ∧ W.cell? ⟨g, 2, none⟩ = some (.string t)) := fun W h => ⟨(HBX.out.on h).cells.2.1, (HBX.out.on h).cells.2.2⟩
  have q0 := HC.out _ (Below.refl _ _)
  obtain ⟨Q, hq⟩ : ∃ Q, (ts.any fun u => decide (u = t)) = Q := ⟨_, rfl⟩
  have HD : Hid (doE (o.map Fx.fld) (5, n, t) = if Q = true then (0, o.map Fx.fld) else (13, [])) := by
    show _ = _
    rw [hdo]
    by_cases h : (restT ts t).length < ts.length
    · rw [if_pos h, if_pos (by rw [← hq]; exact (rest_lt ts t).1 h)]
    · rw [if_neg h, if_neg (by rw [← hq]; exact fun e => h ((rest_lt ts t).2 e))]
  have HQ := hid hq
  clear hv hok hb hN hts hdo hq
  go_enter Tryz.func60, Tryz.ntmps60
  go_wp2_with fail
  refine wp_region_held_drew (S := fun W => W.cell? ⟨g, 1, none⟩ = some (.string n) ∧ W.cell? ⟨g, 2, none⟩ = some (.string t)) (by kernel_rfl) q0 (fun hHeld => ?_)
  refine take_val (i := 0) (v) rfl (by kernel_rfl) (by kernel_rfl) (by kernel_rfl) (fun _ _ _ h => h) (by rfl) (fun w hSw => by go_simp) hHeld ?_
  simp only [Act.put, List.setIfInBounds_toArray, List.set_cons_zero, List.set_cons_succ]
  refine take_val (i := 1) (.pointer (some ⟨g, 1, none⟩)) rfl (by kernel_rfl) (by kernel_rfl) (by kernel_rfl) (fun _ _ _ h => h) (by rfl) (fun w hSw => by go_simp) hHeld ?_
  simp only [Act.put, List.setIfInBounds_toArray, List.set_cons_zero, List.set_cons_succ]
  refine take_val (i := 2) (.string n) rfl (by kernel_rfl) (by kernel_rfl) (by kernel_rfl) (fun _ _ _ h => h) (by rfl) (fun w hSw => by go_simp) hHeld ?_
  simp only [Act.put, List.setIfInBounds_toArray, List.set_cons_zero, List.set_cons_succ]
  refine take_val (i := 4) (.pointer (some ⟨g, 2, none⟩)) rfl (by kernel_rfl) (by kernel_rfl) (by kernel_rfl) (fun _ _ _ h => h) (by rfl) (fun w hSw => by go_simp) hHeld ?_
  simp only [Act.put, List.setIfInBounds_toArray, List.set_cons_zero, List.set_cons_succ]
  refine take_val (i := 5) (.string t) rfl (by kernel_rfl) (by kernel_rfl) (by kernel_rfl) (fun _ _ _ h => h) (by rfl) (fun w hSw => by go_simp) hHeld ?_
  simp only [Act.put, List.setIfInBounds_toArray, List.set_cons_zero, List.set_cons_succ]
  refine wpAnyH_ready (rs := [3]) (by kernel_rfl) (by simp) ?_
  refine AllReadyH.cons (at_drop0 rfl) (fun K hK => ?_) AllReadyH.nil
  rw [if_pos (by rfl)]
  go_simp
  refine (HTX.out 1).mono ?_
  rintro e w1 ⟨⟨tv, rfl, hot⟩, hb1⟩
  obtain ⟨tp, tc, rfl⟩ := own_slice hot
  have hb1' : Below w.heap.size w w1 := (belE_drew (Below.refl _ _) 1).trans hb1
  have q1 := HC.out _ hb1'
  have hh := hasT_any tp tc ts t w1 hot.txtAt (by unfold maxLen; omega)
  rw [HQ.out] at hh
  have HH : Hid (Calls Tryz.prog 56 #[.slice tp ts.length tc, .string t] w1 fun e w' => e = .returned (.bool Q) ∧ w1 = w') := hh.mono fun e w' h => ⟨h.1, h.2.symm⟩
  have HB1 := hid hb1'
  clear hot hb1 hb1' hh
  go_wp2_with fail
  refine hK.out _ _ q1 (fun hHeld => ?_)
  clear hK K
  try simp only [Act.put, List.setIfInBounds_toArray, List.set_cons_zero, List.set_cons_succ]
  refine wpAnyH_ready (rs := [6]) (by kernel_rfl) (by simp) ?_
  refine AllReadyH.cons (at_drop0 rfl) (fun K hK => ?_) AllReadyH.nil
  rw [if_pos (by rfl)]
  go_simp
  refine HH.out.mono ?_
  rintro e w2 ⟨rfl, rfl⟩
  go_wp2_with fail
  refine hK.out _ _ q1 (fun hHeld => ?_)
  clear hK K
  try simp only [Act.put, List.setIfInBounds_toArray, List.set_cons_zero, List.set_cons_succ]
  refine take_val (i := 7) (.bool (!Q)) rfl (by kernel_rfl) (by kernel_rfl) (by kernel_rfl) (fun _ _ _ h => h) (by rfl) (fun w hSw => by go_simp) hHeld ?_
  simp only [Act.put, List.setIfInBounds_toArray, List.set_cons_zero, List.set_cons_succ]
  refine wpAnyH_done (by kernel_rfl) ?_ _
  cases Q with
  | true =>
    go_wp2_with fail
    go_ret2
    exact deed_of HD.out rfl (HV.out.on HB1.out) rfl (HB1.out.mono HN.out)
  | false =>
    go_wp2_with fail
    go_ret2
    exact deed_of HD.out rfl (ownJ_none _ _) rfl (HB1.out.mono HN.out)

theorem news_one {W : World} {h : Nat} {t : ByteArray} (hh : W.heap[h]? = some (.cells #[.string t] 9 (0, 0))) : ∀ j u, ([.string t] : List Value)[j]? = some u → W.cell? ((⟨h, 0, none⟩ : Addr).add j) = some u := fun j u hu => by
  have hj : j < 1 := (List.getElem?_eq_some_iff.1 hu).1
  obtain rfl : j = 0 := by omega
  rw [addr_add, Lib.cell_of_heap hh]
  exact hu

set_option maxHeartbeats 4000000 in
set_option maxRecDepth 100000 in
theorem deed2_any (N g k : Nat) (v : Value) (o : List Fx) (n t : ByteArray) (w : World) (hv : OwnJ N w v o) (hok : OkR k (o.map Fx.fld)) (hk : k ≤ 1000) (hb : BoxE w g (2, n, t)) (hN : N ≤ w.heap.size) :
    Calls Tryz.prog 54 #[v, .pointer (some ⟨g, 0, none⟩)] w fun e w' => DeedPost N w (o.map Fx.fld) (2, n, t) e w' := by
  obtain ⟨i0, hi0, hz0, hz1, hz2⟩ := info_parts Tryz.infoStr
  have HI := hid hi0
  have HTX : Hid (∀ W, Below w.heap.size w W → Calls Tryz.prog 37 #[v, .string n] W fun e w' => TxPost W (textsOf (o.map Fx.fld) n) e w') := fun W h => texts_any v n o W (hv.on h).1.is (okR_fit hok hk) (okR_16 hok hk)
  have htl := (okR_texts hok n).1
  have hdo := do_add (o.map Fx.fld) n t
  obtain ⟨ts, hts⟩ : ∃ ts, textsOf (o.map Fx.fld) n = ts := ⟨_, rfl⟩
  rw [hts] at HTX htl hdo
  have HV := hid hv
  have HOK := hid hok
  have HBX := hid hb
  have HN := hid hN
  have HD := hid hdo
  have HC : Hid (∀ W, Below w.heap.size w W → W.cell? ⟨g, 1, none⟩ = some (.string n) ∧ W.cell? ⟨g, 2, none⟩ = some (.string t)) := fun W h => ⟨(HBX.out.on h).cells.2.1, (HBX.out.on h).cells.2.2⟩
  have q0 := HC.out _ (Below.refl _ _)
  have HWI : Hid (∀ (W : World) (tv : Value), Below w.heap.size w W → OwnT w.heap.size W tv (ts ++ [t]) → Calls Tryz.prog 53 #[v, .string n, tv] W fun e w' => ∃ u o', e = .returned u ∧ OwnJ N w' u o' ∧ o'.map Fx.fld = setF (o.map Fx.fld) n (ts ++ [t]) ∧ Below N w w' ∧ (w'.cell? ⟨g, 1, none⟩ = some (.string n) ∧ w'.cell? ⟨g, 2, none⟩ = some (.string t))) := fun W tv h ho =>
    (pwith_any N v tv n (ts ++ [t]) o W (HV.out.on h) HOK.out.rise (by have := okR_len HOK.out; omega) (own_weak ho HN.out) (by simp; omega) (apart_new HV.out (fun k e => (World.ownsRow.lt ho k e).1)) (Nat.le_trans HN.out h.size)).mono fun e w' hp => by
      obtain ⟨u, o', h1, h2, h3, h4⟩ := hp
      have hbx := (HBX.out.on h).grown (HV.out.on h) h4
      exact ⟨u, o', h1, h2, h3, (h.mono HN.out).trans (bel_grown (HV.out.on h) (Nat.le_trans HN.out h.size) h4), hbx.cells.2.1, hbx.cells.2.2⟩
  clear hv hok hb hN hts hdo hi0
  have hb0 : Below w.heap.size w (w.drewN 1) := belE_drew (Below.refl _ _) 1
  have HB0 := hid hb0
  have hbA := hb0.alloc (Nat.le_refl _) (.cells #[.string t] 9)
  have HBA := hid hbA
  have qA := HC.out _ hbA
  clear hb0 hbA
  go_enter Tryz.func54, Tryz.ntmps54
  go_wp2_with fail
  refine wp_region_held_drew (S := fun W => W.cell? ⟨g, 1, none⟩ = some (.string n) ∧ W.cell? ⟨g, 2, none⟩ = some (.string t)) (by kernel_rfl) q0 (fun hHeld => ?_)
  refine take_val (i := 0) (v) rfl (by kernel_rfl) (by kernel_rfl) (by kernel_rfl) (fun _ _ _ h => h) (by rfl) (fun w hSw => by go_simp) hHeld ?_
  simp only [Act.put, List.setIfInBounds_toArray, List.set_cons_zero, List.set_cons_succ]
  refine take_val (i := 1) (.pointer (some ⟨g, 1, none⟩)) rfl (by kernel_rfl) (by kernel_rfl) (by kernel_rfl) (fun _ _ _ h => h) (by rfl) (fun w hSw => by go_simp) hHeld ?_
  simp only [Act.put, List.setIfInBounds_toArray, List.set_cons_zero, List.set_cons_succ]
  refine take_val (i := 2) (.string n) rfl (by kernel_rfl) (by kernel_rfl) (by kernel_rfl) (fun _ _ _ h => h) (by rfl) (fun w hSw => by go_simp) hHeld ?_
  simp only [Act.put, List.setIfInBounds_toArray, List.set_cons_zero, List.set_cons_succ]
  refine take_val (i := 3) (v) rfl (by kernel_rfl) (by kernel_rfl) (by kernel_rfl) (fun _ _ _ h => h) (by rfl) (fun w hSw => by go_simp) hHeld ?_
  simp only [Act.put, List.setIfInBounds_toArray, List.set_cons_zero, List.set_cons_succ]
  refine take_val (i := 4) (.pointer (some ⟨g, 1, none⟩)) rfl (by kernel_rfl) (by kernel_rfl) (by kernel_rfl) (fun _ _ _ h => h) (by rfl) (fun w hSw => by go_simp) hHeld ?_
  simp only [Act.put, List.setIfInBounds_toArray, List.set_cons_zero, List.set_cons_succ]
  refine take_val (i := 5) (.string n) rfl (by kernel_rfl) (by kernel_rfl) (by kernel_rfl) (fun _ _ _ h => h) (by rfl) (fun w hSw => by go_simp) hHeld ?_
  simp only [Act.put, List.setIfInBounds_toArray, List.set_cons_zero, List.set_cons_succ]
  refine take_val (i := 7) (.pointer (some ⟨g, 2, none⟩)) rfl (by kernel_rfl) (by kernel_rfl) (by kernel_rfl) (fun _ _ _ h => h) (by rfl) (fun w hSw => by go_simp) hHeld ?_
  simp only [Act.put, List.setIfInBounds_toArray, List.set_cons_zero, List.set_cons_succ]
  refine take_val (i := 8) (.string t) rfl (by kernel_rfl) (by kernel_rfl) (by kernel_rfl) (fun _ _ _ h => h) (by rfl) (fun w hSw => by go_simp) hHeld ?_
  simp only [Act.put, List.setIfInBounds_toArray, List.set_cons_zero, List.set_cons_succ]
  refine wpAnyH_ready (rs := [6, 9]) (by kernel_rfl) (by simp) ?_
  refine AllReadyH.cons (at_drop0 rfl) (fun K hK => ?_) (AllReadyH.cons (at_drop0 rfl) (fun K hK => ?_) AllReadyH.nil)
  · rw [if_pos (by rfl)]
    go_simp
    refine (HTX.out _ HB0.out).mono ?_
    rintro e w1 ⟨⟨tv, rfl, hot⟩, hb1⟩
    obtain ⟨tp, tc, rfl⟩ := own_slice hot
    have hb1' : Below w.heap.size w w1 := HB0.out.trans hb1
    have q1 := HC.out _ hb1'
    have hb2 := hb1'.alloc hb1'.size (.cells #[.string t] 9)
    have q2 := HC.out _ hb2
    have HO2 : Hid (OwnT w.heap.size (w1.alloc (.cells #[.string t] 9)) (.slice tp ts.length tc) ts) := World.ownsRow.alloc (show OwnT w.heap.size w1 _ ts from hot) _
    have hs2 : w.heap.size ≤ (w1.alloc (.cells #[.string t] 9)).heap.size := hb2.size
    have HB2 := hid hb2
    have HNW := hid (news_one (heap_alloc_new w1 (.cells #[.string t] 9)))
    clear hot hb1 hb1' hb2
    go_wp2_with fail
    refine hK.out _ _ q1 (fun hHeld => ?_)
    clear hK K
    try simp only [Act.put, List.setIfInBounds_toArray, List.set_cons_zero, List.set_cons_succ]
    refine wpAnyH_ready (rs := [9]) (by kernel_rfl) (by simp) ?_
    refine AllReadyH.cons (at_drop0 rfl) (fun K hK => ?_) AllReadyH.nil
    rw [if_pos (by rfl)]
    go_simp
    refine hK.out _ _ q2 (fun hHeld => ?_)
    clear hK K
    try simp only [Act.put, List.setIfInBounds_toArray, List.set_cons_zero, List.set_cons_succ]
    refine wpAnyH_ready (rs := [10]) (by kernel_rfl) (by simp) ?_
    refine AllReadyH.cons (at_drop0 rfl) (fun K hK => ?_) AllReadyH.nil
    refine step_append_lies _ (by rfl) (.tmp 11) (.tmp 14) 42 (by rfl) w.heap.size 9 i0 (.string ⟨#[]⟩) 1 16 Tryz.underlying42 HI.out hz0 hz1 hz2 rfl (by decide) (.slice tp ts.length tc) ts.length (ts.map Value.string) (by rfl) HO2.out ⟨w1.heap.size, 0, none⟩ 1 1 [.string t] (by rfl) rfl HNW.out (by intro u hu; simp at hu; subst hu; rfl) (by decide) (by unfold maxLen; omega) (by omega) hs2 _ rfl ?_
    intro g9 cap9 w9 hown9 hg9 _ _
    have hb9 : Below w.heap.size w w9 := HB2.out.grown hg9 hs2 (fun k hk => (World.ownsRow.lt HO2.out k hk).1)
    have q9 := HC.out _ hb9
    have ho9 : OwnT w.heap.size w9 (.slice (some ⟨g9, 0, none⟩) (ts.length + 1) cap9) (ts ++ [t]) := by
      show w9.ownsRow _ _ _ _ _ _
      rw [List.length_append, List.map_append]
      exact hown9
    have HW9 := hid (HWI.out _ _ hb9 ho9)
    clear hown9 hg9 hb9 ho9
    refine hK.out _ _ q9 (fun hHeld => ?_)
    clear hK K
    try simp only [Act.put, List.setIfInBounds_toArray, List.set_cons_zero, List.set_cons_succ]
    refine wpAnyH_ready (rs := [11]) (by kernel_rfl) (by simp) ?_
    refine AllReadyH.cons (at_drop0 rfl) (fun K hK => ?_) AllReadyH.nil
    rw [if_pos (by rfl)]
    go_simp
    refine HW9.out.mono ?_
    rintro e w10 ⟨u, o', rfl, h1, h2, h3, h4⟩
    have H1 := hid h1
    have H2 := hid h2
    have H3 := hid h3
    clear h1 h2 h3
    go_wp2_with fail
    refine hK.out _ _ h4 (fun hHeld => ?_)
    clear hK K
    try simp only [Act.put, List.setIfInBounds_toArray, List.set_cons_zero, List.set_cons_succ]
    refine take_val (i := 12) (u) rfl (by kernel_rfl) (by kernel_rfl) (by kernel_rfl) (fun _ _ _ h => h) (by rfl) (fun w hSw => by go_simp) hHeld ?_
    simp only [Act.put, List.setIfInBounds_toArray, List.set_cons_zero, List.set_cons_succ]
    refine take_val (i := 13) (.int .i64 0) rfl (by kernel_rfl) (by kernel_rfl) (by kernel_rfl) (fun _ _ _ h => h) (by rfl) (fun w hSw => by go_simp) hHeld ?_
    simp only [Act.put, List.setIfInBounds_toArray, List.set_cons_zero, List.set_cons_succ]
    refine wpAnyH_done (by kernel_rfl) ?_ _
    go_wp2_with fail
    go_ret2
    exact deed_of HD.out rfl H1.out H2.out H3.out
  · rw [if_pos (by rfl)]
    go_simp
    refine hK.out _ _ qA (fun hHeld => ?_)
    clear hK K
    try simp only [Act.put, List.setIfInBounds_toArray, List.set_cons_zero, List.set_cons_succ]
    refine wpAnyH_ready (rs := [6]) (by kernel_rfl) (by simp) ?_
    refine AllReadyH.cons (at_drop0 rfl) (fun K hK => ?_) AllReadyH.nil
    rw [if_pos (by rfl)]
    go_simp
    refine (HTX.out _ HBA.out).mono ?_
    rintro e w1 ⟨⟨tv, rfl, hot⟩, hb1⟩
    obtain ⟨tp, tc, rfl⟩ := own_slice hot
    have hb1' : Below w.heap.size w w1 := bel_then HBA.out HBA.out.size hb1
    have q1 := HC.out _ hb1'
    have HO2 : Hid (OwnT w.heap.size w1 (.slice tp ts.length tc) ts) := own_weak hot HBA.out.size
    have hs2 : w.heap.size ≤ w1.heap.size := hb1'.size
    have HB2 := hid hb1'
    have HNW := hid (news_one ((hb1.block w.heap.size (by rw [World.size_alloc]; exact Nat.lt_succ_self _)).trans (heap_alloc_new (w.drewN 1) (.cells #[.string t] 9))))
    clear hot hb1 hb1'
    go_wp2_with fail
    refine hK.out _ _ q1 (fun hHeld => ?_)
    clear hK K
    try simp only [Act.put, List.setIfInBounds_toArray, List.set_cons_zero, List.set_cons_succ]
    refine wpAnyH_ready (rs := [10]) (by kernel_rfl) (by simp) ?_
    refine AllReadyH.cons (at_drop0 rfl) (fun K hK => ?_) AllReadyH.nil
    refine step_append_lies _ (by rfl) (.tmp 11) (.tmp 14) 42 (by rfl) w.heap.size 9 i0 (.string ⟨#[]⟩) 1 16 Tryz.underlying42 HI.out hz0 hz1 hz2 rfl (by decide) (.slice tp ts.length tc) ts.length (ts.map Value.string) (by rfl) HO2.out ⟨w.heap.size, 0, none⟩ 1 1 [.string t] (by rfl) rfl HNW.out (by intro u hu; simp at hu; subst hu; rfl) (by decide) (by unfold maxLen; omega) (by omega) hs2 _ rfl ?_
    intro g9 cap9 w9 hown9 hg9 _ _
    have hb9 : Below w.heap.size w w9 := HB2.out.grown hg9 hs2 (fun k hk => (World.ownsRow.lt HO2.out k hk).1)
    have q9 := HC.out _ hb9
    have ho9 : OwnT w.heap.size w9 (.slice (some ⟨g9, 0, none⟩) (ts.length + 1) cap9) (ts ++ [t]) := by
      show w9.ownsRow _ _ _ _ _ _
      rw [List.length_append, List.map_append]
      exact hown9
    have HW9 := hid (HWI.out _ _ hb9 ho9)
    clear hown9 hg9 hb9 ho9
    refine hK.out _ _ q9 (fun hHeld => ?_)
    clear hK K
    try simp only [Act.put, List.setIfInBounds_toArray, List.set_cons_zero, List.set_cons_succ]
    refine wpAnyH_ready (rs := [11]) (by kernel_rfl) (by simp) ?_
    refine AllReadyH.cons (at_drop0 rfl) (fun K hK => ?_) AllReadyH.nil
    rw [if_pos (by rfl)]
    go_simp
    refine HW9.out.mono ?_
    rintro e w10 ⟨u, o', rfl, h1, h2, h3, h4⟩
    have H1 := hid h1
    have H2 := hid h2
    have H3 := hid h3
    clear h1 h2 h3
    go_wp2_with fail
    refine hK.out _ _ h4 (fun hHeld => ?_)
    clear hK K
    try simp only [Act.put, List.setIfInBounds_toArray, List.set_cons_zero, List.set_cons_succ]
    refine take_val (i := 12) (u) rfl (by kernel_rfl) (by kernel_rfl) (by kernel_rfl) (fun _ _ _ h => h) (by rfl) (fun w hSw => by go_simp) hHeld ?_
    simp only [Act.put, List.setIfInBounds_toArray, List.set_cons_zero, List.set_cons_succ]
    refine take_val (i := 13) (.int .i64 0) rfl (by kernel_rfl) (by kernel_rfl) (by kernel_rfl) (fun _ _ _ h => h) (by rfl) (fun w hSw => by go_simp) hHeld ?_
    simp only [Act.put, List.setIfInBounds_toArray, List.set_cons_zero, List.set_cons_succ]
    refine wpAnyH_done (by kernel_rfl) ?_ _
    go_wp2_with fail
    go_ret2
    exact deed_of HD.out rfl H1.out H2.out H3.out

end Go.Proofs.YtelcongbnmfegaaGreatDoor
