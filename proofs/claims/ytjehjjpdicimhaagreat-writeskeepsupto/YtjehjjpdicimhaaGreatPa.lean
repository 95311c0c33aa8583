/-
  Texts of this claim, one behind the other: Ord Plain Leaf Tac Ltb Rs0 Spell Shelf Fld Cfm Spk Sh3 Ix Cut Kys May0 May Wm0 Bld Dec0 Dec1 Equ Sam Dec2 Gen Cv0 Cr0 Cr1 Cr2 Frm Stba Stbb Sor.
-/
import Derived.Lib.Bytealg
import GoSem.Claim
import Derived.Test.YtjehjjpdicimhaaGreatProg
import Derived.WalkKit
import Derived.WalkSpells
import Derived.WalkLawsBesides
import Derived.Laws.Rows
import Derived.Deep.LoopGhost
import Derived.Deep.QuietTactic
import Derived.Deep.DrawnRows
import Derived.Deep.RegionHeld3
import Derived.Deep.AppendLies
import Derived.BigQuiet
import Derived.BigRegion
import Derived.LoopN
import Derived.OwnWalk
import Derived.Laws.OwnMore
import Derived.Laws.MakeOwn
import Derived.Shelf.SlSortCmp.QuietGrown
import Derived.Shelf.Small.Bits
import Derived.Shelf.Small.Strs
import Derived.Shelf.Strconv.Itoa0
import Derived.Shelf.Strings.Search1
import Derived.Shelf.Strings.Search2
import Derived.Shelf.Strings.Search3
import Derived.Shelf.Strings.Prefix
import Derived.Ground.Names2Prog
import Derived.Shelf.Slices.Clone
import Derived.Ground.SlgnProg
import Derived.Shelf.SlicesE.Clone
import Derived.Ground.SlgfProg
import Derived.Shelf.SlicesE.IndexFunc
import Derived.Shelf.SlGeneric
import Derived.Shelf.SlicesQ.IndexFunc
import Derived.Shelf.SlSortCmp.InsertionK
import Derived.Ground.NamesProg
import Derived.Shelf.Lays
import Derived.Ground.SlsfProg
import Derived.Shelf.SlLaysE0
import Derived.Shelf.SlLaysF0
import Derived.Lib.IndexBytes
import Derived.Lib.Strings
import Derived.Deep.CutRange
import Derived.Sort.LotA
import Derived.Shelf.SlSortCmp.KitK
/-
  The plain mathematics of the order of texts by their bytes.
-/
namespace Go.Proofs.YtjehjjpdicimhaaGreat

theorem cb_self (a : List UInt8) : Lib.compareBytes a a = 0 := by
  induction a with
  | nil => rfl
  | cons x a ih => unfold Lib.compareBytes; simp [ih]

theorem cb_zero (a b : List UInt8) : Lib.compareBytes a b = 0 ↔ a = b := by
  constructor
  · induction a generalizing b with
    | nil => cases b with
      | nil => intro _; rfl
      | cons y b => intro h; simp [Lib.compareBytes] at h
    | cons x a ih => cases b with
      | nil => intro h; simp [Lib.compareBytes] at h
      | cons y b =>
        intro h
        unfold Lib.compareBytes at h
        split at h
        · simp at h
        · split at h
          · simp at h
          · rename_i h1 h2
            have : x = y := by
              apply UInt8.toNat_inj.1
              rw [UInt8.lt_iff_toNat_lt] at h1 h2
              omega
            rw [this, ih b h]
  · rintro rfl; exact cb_self a

theorem cb_neg (a b : List UInt8) : Lib.compareBytes b a = - Lib.compareBytes a b := by
  induction a generalizing b with
  | nil => cases b <;> simp [Lib.compareBytes]
  | cons x a ih => cases b with
    | nil => simp [Lib.compareBytes]
    | cons y b =>
      unfold Lib.compareBytes
      by_cases h1 : x < y
      · have h2 : ¬ y < x := by rw [UInt8.lt_iff_toNat_lt] at h1 ⊢; omega
        simp [h1, h2]
      · by_cases h2 : y < x
        · simp [h1, h2]
        · simp [h1, h2, ih b]

theorem cb_range (a b : List UInt8) : Lib.compareBytes a b = -1 ∨ Lib.compareBytes a b = 0 ∨ Lib.compareBytes a b = 1 := by
  induction a generalizing b with
  | nil => cases b <;> simp [Lib.compareBytes]
  | cons x a ih => cases b with
    | nil => simp [Lib.compareBytes]
    | cons y b =>
      unfold Lib.compareBytes
      by_cases h1 : x < y
      · simp [h1]
      · by_cases h2 : y < x
        · simp [h1, h2]
        · simpa [h1, h2] using ih b

theorem cb_lt_trans (a b c : List UInt8) (h1 : Lib.compareBytes a b < 0) (h2 : Lib.compareBytes b c < 0) : Lib.compareBytes a c < 0 := by
  induction a generalizing b c with
  | nil => cases c with
    | nil => cases b <;> simp [Lib.compareBytes] at h1 h2
    | cons z c => simp [Lib.compareBytes]
  | cons x a ih => cases b with
    | nil => simp [Lib.compareBytes] at h1
    | cons y b => cases c with
      | nil => simp [Lib.compareBytes] at h2
      | cons z c =>
        unfold Lib.compareBytes at h1 h2 ⊢
        simp only [UInt8.lt_iff_toNat_lt] at h1 h2 ⊢
        by_cases p1 : x.toNat < y.toNat
        · by_cases q1 : y.toNat < z.toNat
          · rw [if_pos (by omega)]; decide
          · rw [if_neg q1] at h2
            by_cases q2 : z.toNat < y.toNat
            · rw [if_pos q2] at h2; simp at h2
            · rw [if_pos (by omega)]; decide
        · rw [if_neg p1] at h1
          by_cases p2 : y.toNat < x.toNat
          · rw [if_pos p2] at h1; simp at h1
          · rw [if_neg p2] at h1
            by_cases q1 : y.toNat < z.toNat
            · rw [if_pos (by omega)]; decide
            · rw [if_neg q1] at h2
              by_cases q2 : z.toNat < y.toNat
              · rw [if_pos q2] at h2; simp at h2
              · rw [if_neg q2] at h2
                rw [if_neg (by omega), if_neg (by omega)]
                exact ih b c h1 h2

theorem cb_less (a b : List UInt8) : decide (Lib.compareBytes a b < 0) = Op.bytesLess a b := by
  induction a generalizing b with
  | nil => cases b <;> simp [Lib.compareBytes, Op.bytesLess]
  | cons x a ih => cases b with
    | nil => simp [Lib.compareBytes, Op.bytesLess]
    | cons y b =>
      unfold Lib.compareBytes Op.bytesLess
      rw [← ih b]
      by_cases h1 : x < y
      · simp [h1]
      · by_cases h2 : y < x
        · have hne : (x == y) = false := by
            rw [beq_eq_false_iff_ne]; rintro rfl; exact h1 h2
          simp [h1, h2, hne]
        · have he : x = y := by
            apply UInt8.toNat_inj.1
            rw [UInt8.lt_iff_toNat_lt] at h1 h2
            omega
          simp [he]

/-- The order of pairs: by the first, then by the second. -/
def pairI (x y : Int) : Int := if x = 0 then y else x

end Go.Proofs.YtjehjjpdicimhaaGreat

/-
  The plain mathematics of package name: which bytes and which texts are what, with no word of the program.
-/
namespace Go.Proofs.YtjehjjpdicimhaaGreat

def bigB (n : Int) : Bool := decide (65 ≤ n) && decide (n ≤ 90)
def smallB (n : Int) : Bool := decide (97 ≤ n) && decide (n ≤ 122)
def digB (n : Int) : Bool := decide (48 ≤ n) && decide (n ≤ 57)
def letB (n : Int) : Bool := bigB n || smallB n
def lodB (n : Int) : Bool := letB n || digB n
def idB (n : Int) : Bool := lodB n || n == 45 || n == 46

theorem bigB_true {n : Int} : bigB n = true ↔ 65 ≤ n ∧ n ≤ 90 := by simp [bigB]
theorem smallB_true {n : Int} : smallB n = true ↔ 97 ≤ n ∧ n ≤ 122 := by simp [smallB]
theorem digB_true {n : Int} : digB n = true ↔ 48 ≤ n ∧ n ≤ 57 := by simp [digB]

/-- A text of 1 to 32 bytes: the first as f says, each behind it as g says. -/
def spell (f g : Int → Bool) (l : List UInt8) : Bool :=
  match l with
  | [] => false
  | c :: r => decide (r.length + 1 ≤ 32) && f (c.toNat : Int) && r.all fun x => g (x.toNat : Int)

def typeB (l : List UInt8) : Bool := spell bigB letB l
def idenB (l : List UInt8) : Bool := spell idB idB l
def fieldB (l : List UInt8) : Bool := spell smallB lodB l
def tempB (l : List UInt8) : Bool := spell lodB lodB l

theorem spell_unfold (f g : Int → Bool) (s : ByteArray) (h : 0 < s.size) :
    spell f g s.data.toList = (decide (s.size ≤ 32) && f (s[0].toNat : Int) && (s.data.toList.drop 1).all fun x => g (x.toNat : Int)) := by
  obtain ⟨⟨l⟩⟩ := s
  cases l with
  | nil => exact absurd h (Nat.lt_irrefl 0)
  | cons c r => rfl

theorem spell_empty (f g : Int → Bool) (s : ByteArray) (h : s.size = 0) : spell f g s.data.toList = false := by
  obtain ⟨⟨l⟩⟩ := s
  cases l with
  | nil => rfl
  | cons c r => exact absurd h (Nat.succ_ne_zero _)

theorem spell_long (f g : Int → Bool) (s : ByteArray) (h : 32 < s.size) : spell f g s.data.toList = false := by
  rw [spell_unfold f g s (by omega)]
  have : ¬ s.size ≤ 32 := by omega
  simp [this]

theorem spell_first (f g : Int → Bool) (s : ByteArray) (h : 0 < s.size) (hf : f (s[0].toNat : Int) = false) : spell f g s.data.toList = false := by
  rw [spell_unfold f g s h]
  simp [hf]

theorem byte_at (s : ByteArray) (k : Nat) (h : k < s.size) : s.data.toList[k]'(by simpa using h) = s[k] := rfl

theorem spell_at (f g : Int → Bool) (s : ByteArray) (k : Nat) (h1 : 1 ≤ k) (h : k < s.size) (hg : g (s[k].toNat : Int) = false) : spell f g s.data.toList = false := by
  rw [spell_unfold f g s (by omega)]
  have : ((s.data.toList.drop 1).all fun x => g (x.toNat : Int)) = false := by
    rw [Bool.eq_false_iff]
    intro hall
    rw [List.all_eq_true] at hall
    have hl : k < s.data.toList.length := by simpa using h
    have hm : s[k] ∈ s.data.toList.drop 1 := by
      rw [← byte_at s k h, List.mem_iff_getElem]
      refine ⟨k - 1, by simp at hl ⊢; omega, ?_⟩
      rw [List.getElem_drop]
      congr 1
      omega
    have := hall _ hm
    rw [hg] at this
    cases this
  rw [this]; simp

theorem spell_true (f g : Int → Bool) (s : ByteArray) (h : 0 < s.size) (h32 : s.size ≤ 32) (hf : f (s[0].toNat : Int) = true)
    (hg : ∀ k, 1 ≤ k → (hk : k < s.size) → g (s[k].toNat : Int) = true) : spell f g s.data.toList = true := by
  rw [spell_unfold f g s h]
  have : ((s.data.toList.drop 1).all fun x => g (x.toNat : Int)) = true := by
    rw [List.all_eq_true]
    intro x hx
    rw [List.mem_iff_getElem] at hx
    obtain ⟨j, hj, rfl⟩ := hx
    rw [List.getElem_drop]
    have hj2 : 1 + j < s.size := by simp at hj; omega
    exact hg (1 + j) (by omega) hj2
  rw [this]; simp [h32, hf]

end Go.Proofs.YtjehjjpdicimhaaGreat

/-
  The contracts of the functions that look at one byte.
-/
namespace Go.Proofs.YtjehjjpdicimhaaGreat
open Go.RowKit

theorem hid {p : Prop} (h : p) : Hid p := h
theorem ret_bool {a b : Bool} (h : a = b) : Ending.returned (.bool a) = .returned (.bool b) := by rw [h]
theorem ret_int {k : IntKind} {a b : Int} (h : a = b) : Ending.returned (.int k a) = .returned (.int k b) := by rw [h]

set_option maxHeartbeats 400000 in
theorem big_any (n : Int) (w : World) : Calls Tryz.prog 68 #[.int .u8 n] w fun e w' => e = .returned (.bool (bigB n)) ∧ w' = w := by
  go_enter Tryz.func68, Tryz.ntmps68
  go_wp2
  all_goals go_ret
  all_goals refine ⟨ret_bool ?_, rfl⟩
  all_goals (rw [Bool.eq_iff_iff]; simp [bigB]; try omega)

set_option maxHeartbeats 400000 in
theorem small_any (n : Int) (w : World) : Calls Tryz.prog 94 #[.int .u8 n] w fun e w' => e = .returned (.bool (smallB n)) ∧ w' = w := by
  go_enter Tryz.func94, Tryz.ntmps94
  go_wp2
  all_goals go_ret
  all_goals refine ⟨ret_bool ?_, rfl⟩
  all_goals (rw [Bool.eq_iff_iff]; simp [smallB]; try omega)

set_option maxHeartbeats 400000 in
theorem letter_any (n : Int) (w : World) : Calls Tryz.prog 69 #[.int .u8 n] w fun e w' => e = .returned (.bool (letB n)) ∧ w' = w := by
  go_enter Tryz.func69, Tryz.ntmps69
  go_wp2
  all_goals go_ret
  all_goals refine ⟨ret_bool ?_, rfl⟩
  all_goals (rw [Bool.eq_iff_iff]; simp [letB, bigB, smallB]; try omega)

set_option maxHeartbeats 400000 in
theorem lod_any (n : Int) (w : World) : Calls Tryz.prog 95 #[.int .u8 n] w fun e w' => e = .returned (.bool (lodB n)) ∧ w' = w := by
  go_enter Tryz.func95, Tryz.ntmps95
  go_wp2
  all_goals go_ret
  all_goals refine ⟨ret_bool ?_, rfl⟩
  all_goals (rw [Bool.eq_iff_iff]; simp [lodB, digB, letB, bigB, smallB]; try omega)

end Go.Proofs.YtjehjjpdicimhaaGreat

/-
  The kit's tactics that the walks of package value take, in one place.
-/
namespace Go.Proofs.YtjehjjpdicimhaaGreat
open Go.RowKit

theorem bel_drewN {B : Nat} {a w : World} (h : Below B a w) (n : Nat) : Below B a (w.drewN n) := ⟨h.os, h.tape, h.output, h.size, h.block⟩

theorem bel_then {B : Nat} {a b c : World} (h : Below B a b) (hB : B ≤ b.heap.size) (k : Below b.heap.size b c) : Below B a c := h.trans (k.mono hB)

theorem Tryz.mixed : Tryz.prog.follows .mixedOrders = true := by kernel_rfl

/-- The world has drawn, and new blocks lie behind it; nothing else has turned. -/
def Grown (w w' : World) : Prop := ∃ q os, w' = Sort.grow (w.drewN q) os

theorem Grown.refl (w : World) : Grown w w := ⟨0, #[], by rw [Sort.grow_empty]; rfl⟩
theorem Grown.draws (w : World) (n : Nat) : Grown w (w.drewN n) := ⟨n, #[], by rw [Sort.grow_empty]⟩
theorem Grown.trans {a b c : World} (h : Grown a b) (k : Grown b c) : Grown a c := by
  obtain ⟨q, os, rfl⟩ := h
  obtain ⟨q', os', rfl⟩ := k
  exact ⟨q + q', os ++ os', by show Sort.grow (Sort.grow ((a.drewN q).drewN q') os) os' = _; rw [Sort.grow_grow, World.drewN_drewN]⟩
theorem Grown.alloc {a w : World} (h : Grown a w) (o : Obj) : Grown a (w.alloc o) := h.trans ⟨0, #[o], by rw [Sort.alloc_eq_grow]; rfl⟩
theorem Grown.drewN {a w : World} (h : Grown a w) (n : Nat) : Grown a (w.drewN n) := h.trans (Grown.draws w n)
theorem Grown.on {a w : World} {q : Nat} {os : Array Obj} (h : Grown a w) : Grown a (Sort.grow (w.drewN q) os) := h.trans ⟨q, os, rfl⟩
theorem Grown.below {w w' : World} (h : Grown w w') : Below w.heap.size w w' := by
  obtain ⟨q, os, rfl⟩ := h
  refine ⟨rfl, rfl, rfl, by simp [Sort.grow, World.drewN], fun k hk => ?_⟩
  show (w.heap ++ os)[k]? = w.heap[k]?
  rw [Array.getElem?_append_left hk]

theorem drewN_heap (w : World) (n : Nat) : (w.drewN n).heap = w.heap := rfl

end Go.Proofs.YtjehjjpdicimhaaGreat

/-
  The order of texts, byte by byte.
-/
namespace Go.Proofs.YtjehjjpdicimhaaGreat
open Go.RowKit Go.Lib

def ltB (a b : ByteArray) : Bool := decide (Lib.compareBytes a.data.toList b.data.toList < 0)

theorem ba_eq {a b : ByteArray} (h : a.data.toList = b.data.toList) : a = b := by
  obtain ⟨⟨a⟩⟩ := a
  obtain ⟨⟨b⟩⟩ := b
  cases h
  rfl

theorem ltB_anti {a b : ByteArray} (h : ltB a b = false) (k : ltB b a = false) : a = b := by
  unfold ltB at *
  rw [decide_eq_false_iff_not] at *
  refine ba_eq ((cb_zero _ _).1 ?_)
  have := cb_neg a.data.toList b.data.toList
  omega

theorem ltB_irrefl (a : ByteArray) : ltB a a = false := by
  unfold ltB; rw [cb_self]; rfl

theorem ltB_asymm {a b : ByteArray} (h : ltB a b = true) : ltB b a = false := by
  unfold ltB at *
  rw [decide_eq_true_iff] at h
  rw [decide_eq_false_iff_not]
  have := cb_neg a.data.toList b.data.toList
  omega

theorem ltB_trans {a b c : ByteArray} (h : ltB a b = true) (k : ltB b c = true) : ltB a c = true := by
  unfold ltB at *
  rw [decide_eq_true_iff] at *
  exact cb_lt_trans _ _ _ h k

theorem ltB_cases (a b : ByteArray) : ltB a b = true ∨ a = b ∨ ltB b a = true := by
  cases h : ltB a b with
  | true => exact Or.inl rfl
  | false =>
    cases k : ltB b a with
    | true => exact Or.inr (Or.inr rfl)
    | false => exact Or.inr (Or.inl (ltB_anti h k))

/-- not b < a, b < c: a < c. -/
theorem ltB_le_lt {a b c : ByteArray} (h : ltB b a = false) (k : ltB b c = true) : ltB a c = true := by
  rcases ltB_cases a b with h1 | rfl | h1
  · exact ltB_trans h1 k
  · exact k
  · rw [h] at h1; cases h1

theorem sless_of {a b : ByteArray} {c : Bool} (h : ltB a b = c) : Op.bytesLess a.toList b.toList = c := by
  rw [← h]
  unfold ltB
  rw [Lib.toList_data, Lib.toList_data, cb_less]

theorem seq_false {a b : ByteArray} (h : a ≠ b) : (a.toList == b.toList) = false := by
  rw [Lib.toList_data, Lib.toList_data, beq_eq_false_iff_ne]
  exact fun e => h (ba_eq e)
theorem seq_true {a b : ByteArray} (h : a = b) : (a.toList == b.toList) = true := by rw [h]; simp

theorem sempty_of {a : ByteArray} (h : a.size = 0) : a.toList.isEmpty = true := by
  rw [Lib.toList_data]
  have : a.data.toList = [] := List.length_eq_zero_iff.1 (by simpa using h)
  rw [this]; rfl
theorem sfull_of {a : ByteArray} (h : a.size ≠ 0) : a.toList.isEmpty = false := by
  rw [Lib.toList_data]
  cases e : a.data.toList with
  | nil => exact absurd (by simpa using congrArg List.length e) h
  | cons _ _ => rfl

end Go.Proofs.YtjehjjpdicimhaaGreat

/-
  Rising lists: one more in its place; the order of keys. No program.
-/
namespace Go.Proofs.YtjehjjpdicimhaaGreat
open Go.RowKit Go.Lib

abbrev Ky := ByteArray × ByteArray

structure Tot {α : Type} (lt : α → α → Bool) : Prop where
  irr : ∀ a, lt a a = false
  tr : ∀ a b c, lt a b = true → lt b c = true → lt a c = true
  tot : ∀ a b, lt a b = true ∨ a = b ∨ lt b a = true

def RisingR {α : Type} (lt : α → α → Bool) (l : List α) : Prop := l.Pairwise fun x y => lt x y = true

def insR {α : Type} [DecidableEq α] (lt : α → α → Bool) (x : α) : List α → List α
  | [] => [x]
  | y :: r => if lt x y then x :: y :: r else if x = y then y :: r else y :: insR lt x r

theorem mem_insR {α : Type} [DecidableEq α] (lt : α → α → Bool) (x z : α) (l : List α) : z ∈ insR lt x l ↔ z = x ∨ z ∈ l := by
  induction l with
  | nil => simp [insR]
  | cons y r ih =>
    unfold insR
    split
    · simp
    · split
      · next h => subst h; simp
      · rw [List.mem_cons, ih, List.mem_cons]
        constructor
        · rintro (h | h | h)
          · exact Or.inr (Or.inl h)
          · exact Or.inl h
          · exact Or.inr (Or.inr h)
        · rintro (h | h | h)
          · exact Or.inr (Or.inl h)
          · exact Or.inl h
          · exact Or.inr (Or.inr h)

theorem rising_insR {α : Type} [DecidableEq α] {lt : α → α → Bool} (T : Tot lt) (x : α) {l : List α} (h : RisingR lt l) : RisingR lt (insR lt x l) := by
  induction l with
  | nil => exact List.pairwise_cons.2 ⟨fun _ h => by simp at h, List.Pairwise.nil⟩
  | cons y r ih =>
    obtain ⟨h1, h2⟩ := List.pairwise_cons.1 h
    unfold insR
    split
    · next hx =>
      refine List.pairwise_cons.2 ⟨fun z hz => ?_, h⟩
      rcases List.mem_cons.1 hz with rfl | hz
      · exact hx
      · exact T.tr _ _ _ hx (h1 z hz)
    · next hx =>
      split
      · exact h
      · next hne =>
        refine List.pairwise_cons.2 ⟨fun z hz => ?_, ih h2⟩
        rcases (mem_insR lt x z r).1 hz with rfl | hz
        · rcases T.tot y z with h | h | h
          · exact h
          · exact absurd h.symm hne
          · exact absurd h hx
        · exact h1 z hz

theorem rising_uniqR {α : Type} {lt : α → α → Bool} (T : Tot lt) : ∀ {r s : List α}, RisingR lt r → RisingR lt s → (∀ x, x ∈ r ↔ x ∈ s) → r = s
  | [], [], _, _, _ => rfl
  | [], y :: s, _, _, h => by have := (h y).2 (by simp); simp at this
  | x :: r, [], _, _, h => by have := (h x).1 (by simp); simp at this
  | x :: r, y :: s, hr, hs, h => by
    obtain ⟨r1, r2⟩ := List.pairwise_cons.1 hr
    obtain ⟨s1, s2⟩ := List.pairwise_cons.1 hs
    have hxy : x = y := by
      rcases List.mem_cons.1 ((h x).1 (by simp)) with e | hx
      · exact e
      · rcases List.mem_cons.1 ((h y).2 (by simp)) with e | hy
        · exact e.symm
        · have h1 := T.tr _ _ _ (r1 y hy) (s1 x hx)
          rw [T.irr] at h1
          cases h1
    subst hxy
    rw [rising_uniqR T r2 s2 fun z => ?_]
    constructor
    · intro hz
      rcases List.mem_cons.1 ((h z).1 (List.mem_cons_of_mem _ hz)) with e | hz'
      · subst e; have := r1 z hz; rw [T.irr] at this; cases this
      · exact hz'
    · intro hz
      rcases List.mem_cons.1 ((h z).2 (List.mem_cons_of_mem _ hz)) with e | hz'
      · subst e; have := s1 z hz; rw [T.irr] at this; cases this
      · exact hz'

/-- One more, where the search has found its place. -/
theorem insR_at {α : Type} [DecidableEq α] {lt : α → α → Bool} (T : Tot lt) (x : α) : ∀ (l : List α) (p : Nat), p ≤ l.length → (∀ i, (h : i < p) → (h' : i < l.length) → lt l[i] x = true) → (∀ h : p < l.length, lt x l[p] = true) → insR lt x l = l.take p ++ x :: l.drop p
  | [], 0, _, _, _ => rfl
  | [], p + 1, h, _, _ => absurd h (by simp)
  | y :: r, 0, _, _, h2 => by
    have := h2 (by simp)
    simp only [List.getElem_cons_zero] at this
    unfold insR
    rw [if_pos this]
    rfl
  | y :: r, p + 1, h, h1, h2 => by
    have hy := h1 0 (by omega) (by simp)
    simp only [List.getElem_cons_zero] at hy
    have hxy : lt x y = false := by
      cases e : lt x y with
      | false => rfl
      | true => have := T.tr _ _ _ hy e; rw [T.irr] at this; cases this
    have hne : x ≠ y := fun e => by subst e; rw [T.irr] at hy; cases hy
    unfold insR
    rw [if_neg (by rw [hxy]; simp), if_neg hne, insR_at T x r p (by simpa using h) (fun i hi hi' => ?_) (fun hp => ?_)]
    · rfl
    · have := h1 (i + 1) (by omega) (by simpa using hi')
      simpa using this
    · have := h2 (by simpa using hp)
      simpa using this

/-- One that is there already. -/
theorem insR_there {α : Type} [DecidableEq α] {lt : α → α → Bool} (T : Tot lt) {x : α} {l : List α} (h : RisingR lt l) (hx : x ∈ l) : insR lt x l = l :=
  rising_uniqR T (rising_insR T x h) h fun z => by
    rw [mem_insR]
    exact ⟨fun hz => by rcases hz with rfl | hz <;> assumption, Or.inr⟩

/-- What a search by halves finds out at the place m. -/
theorem rising_low {α : Type} {lt : α → α → Bool} (T : Tot lt) {l : List α} (h : RisingR lt l) {x : α} {m : Nat} (hm : m < l.length) (hx : lt l[m] x = true) : ∀ i, (hi : i ≤ m) → lt (l[i]'(by omega)) x = true := by
  intro i hi
  rcases Nat.lt_or_eq_of_le hi with hlt | rfl
  · exact T.tr _ _ _ (List.pairwise_iff_getElem.1 h i m (by omega) hm hlt) hx
  · exact hx

theorem rising_high {α : Type} {lt : α → α → Bool} (T : Tot lt) {l : List α} (h : RisingR lt l) {x : α} {m : Nat} (hm : m < l.length) (hx : lt l[m] x = false) : ∀ i, (hi : m ≤ i) → (h' : i < l.length) → lt l[i] x = false := by
  intro i hi h'
  rcases Nat.lt_or_eq_of_le hi with hlt | rfl
  · cases e : lt l[i] x with
    | false => rfl
    | true =>
      have := T.tr _ _ _ (List.pairwise_iff_getElem.1 h m i hm h' hlt) e
      rw [hx] at this
      cases this
  · exact hx

/-- The place that a search by halves ends at: what is there already, or where it goes. -/
theorem put_there {α : Type} [DecidableEq α] {lt : α → α → Bool} (T : Tot lt) {l : List α} (h : RisingR lt l) {x : α} {p : Nat} (hp : p < l.length) (he : l[p] = x) : insR lt x l = l :=
  insR_there T h (by rw [← he]; exact List.getElem_mem hp)

theorem put_new {α : Type} [DecidableEq α] {lt : α → α → Bool} (T : Tot lt) {l : List α} {x : α} {p : Nat} (hp : p ≤ l.length) (h1 : ∀ i, (h : i < p) → (h' : i < l.length) → lt l[i] x = true) (h2 : ∀ h : p < l.length, lt l[p] x = false) (hne : ∀ h : p < l.length, l[p] ≠ x) :
    insR lt x l = l.take p ++ x :: l.drop p :=
  insR_at T x l p hp h1 fun h => by
    rcases T.tot x l[p] with e | e | e
    · exact e
    · exact absurd e.symm (hne h)
    · rw [h2 h] at e; cases e

theorem totB : Tot ltB := ⟨ltB_irrefl, fun _ _ _ => ltB_trans, ltB_cases⟩

def ltKy (a b : Ky) : Bool := ltB a.1 b.1 || (decide (a.1 = b.1) && ltB a.2 b.2)

theorem ltKy_true {a b : Ky} : ltKy a b = true ↔ ltB a.1 b.1 = true ∨ a.1 = b.1 ∧ ltB a.2 b.2 = true := by simp [ltKy]

theorem totK : Tot ltKy where
  irr a := by
    cases h : ltKy a a with
    | false => rfl
    | true =>
      rcases ltKy_true.1 h with h | ⟨_, h⟩
      · rw [ltB_irrefl] at h; cases h
      · rw [ltB_irrefl] at h; cases h
  tr a b c h k := by
    rw [ltKy_true] at *
    rcases h with h | ⟨h, h'⟩ <;> rcases k with k | ⟨k, k'⟩
    · exact Or.inl (ltB_trans h k)
    · exact Or.inl (by rw [← k]; exact h)
    · exact Or.inl (by rw [h]; exact k)
    · exact Or.inr ⟨h.trans k, ltB_trans h' k'⟩
  tot a b := by
    rw [ltKy_true, ltKy_true]
    rcases ltB_cases a.1 b.1 with h | h | h
    · exact Or.inl (Or.inl h)
    · rcases ltB_cases a.2 b.2 with k | k | k
      · exact Or.inl (Or.inr ⟨h, k⟩)
      · exact Or.inr (Or.inl (Prod.ext h k))
      · exact Or.inr (Or.inr (Or.inr ⟨h.symm, k⟩))
    · exact Or.inr (Or.inr (Or.inl h))

end Go.Proofs.YtjehjjpdicimhaaGreat

/-
  The contracts of spelled, and of the four words that stand on it.
-/
namespace Go.Proofs.YtjehjjpdicimhaaGreat
open Go.RowKit

theorem nat_pos {n : Nat} (h : ¬ (n : Int) < 1) : 0 < n := by omega

set_option maxHeartbeats 800000 in
theorem spelled_field (s : ByteArray) (w : World) (hs : s.size ≤ maxLen) :
    Calls Tryz.prog 67 #[.string s, .func (.func 94) #[] #[], .func (.func 95) #[] #[]] w fun e w' => e = .returned (.bool (fieldB s.data.toList)) ∧ w' = w := by
  unfold maxLen at hs
  by_cases he : s.size = 0
  · have hb := spell_empty smallB lodB s he
    have hlt : (s.size : Int) < 1 := by omega
    have HB : Hid (spell smallB lodB s.data.toList = false) := hb
    clear he hb
    go_enter Tryz.func67, Tryz.ntmps67
    go_wp2_with fail
    go_ret
    exact ⟨ret_bool HB.out.symm, rfl⟩
  have hpos : 0 < s.size := by omega
  have hnl : ¬ (s.size : Int) < 1 := by omega
  by_cases hl : 32 < s.size
  · have hb := spell_long smallB lodB s hl
    have HB : Hid (spell smallB lodB s.data.toList = false) := hb
    have hgt : (32 : Int) < (s.size : Int) := by omega
    clear he hb
    go_enter Tryz.func67, Tryz.ntmps67
    go_wp2_with fail
    go_ret
    exact ⟨ret_bool HB.out.symm, rfl⟩
  have hle : ¬ (32 : Int) < (s.size : Int) := by omega
  clear he
  cases hc : smallB (s[0].toNat : Int) with
  | false =>
    have HB : Hid (spell smallB lodB s.data.toList = false) := spell_first smallB lodB s hpos hc
    go_enter Tryz.func67, Tryz.ntmps67
    go_wp2_with (go_at_call 94; refine (small_any _ _).mono ?_; rintro e w' ⟨rfl, rfl⟩)
    go_ret
    exact ⟨ret_bool HB.out.symm, rfl⟩
  | true =>
    have HT : Hid ((∀ k, 1 ≤ k → (hk : k < s.size) → lodB (s[k].toNat : Int) = true) → spell smallB lodB s.data.toList = true) := spell_true smallB lodB s hpos (by omega) hc
    have HA : Hid (∀ k, 1 ≤ k → (hk : k < s.size) → lodB (s[k].toNat : Int) = false → spell smallB lodB s.data.toList = false) := fun k h1 hk => spell_at smallB lodB s k h1 hk
    go_enter Tryz.func67, Tryz.ntmps67
    go_wp2_with (go_at_call 94; refine (small_any _ _).mono ?_; rintro e w' ⟨rfl, rfl⟩)
    go_loop [7] (fun i => ∃ k : Nat, 1 ≤ k ∧ k ≤ s.size ∧ i = .int .i64 k ∧ (∀ j, 1 ≤ j → j < k → (hj : j < s.size) → lodB (s[j].toNat : Int) = true)) (fun i => s.size - (intOf i).toNat)
    case atStart => exact ⟨1, by omega, by omega, rfl, fun j h1 h2 => by omega⟩
    case round =>
      obtain ⟨k, hk1, hk, rfl, hall⟩ := hrel
      have HL : Hid (∀ j, 1 ≤ j → j < k → (hj : j < s.size) → lodB (s[j].toNat : Int) = true) := hall
      clear hall
      by_cases hlt : k < s.size
      · cases hd : lodB (s[k].toNat : Int) with
        | false =>
          go_wp2_with (go_at_call 95; refine (lod_any _ _).mono ?_; rintro e w' ⟨rfl, rfl⟩)
          go_ret
          exact ⟨ret_bool (HA.out k hk1 hlt hd).symm, rfl⟩
        | true =>
          go_wp2_with (go_at_call 95; refine (lod_any _ _).mono ?_; rintro e w' ⟨rfl, rfl⟩)
          go_round
          case rel =>
            refine ⟨k + 1, by omega, by omega, by go_num, fun j h1 h2 hj => ?_⟩
            by_cases hjk : j = k
            · subst hjk; exact hd
            · exact HL.out j h1 (by omega) hj
          case measure => simp [intOf]; omega
      · go_wp2_with fail
        go_ret
        exact ⟨ret_bool (HT.out fun j h1 hj => HL.out j h1 (by omega) hj).symm, rfl⟩

set_option maxHeartbeats 400000 in
theorem field_any (s : ByteArray) (w : World) (hs : s.size ≤ maxLen) :
    Calls Tryz.prog 96 #[.string s] w fun e w' => e = .returned (.bool (fieldB s.data.toList)) ∧ w' = w := by
  go_enter Tryz.func96, Tryz.ntmps96
  go_wp2_with (go_at_call 67; refine (spelled_field _ _ hs).mono ?_; rintro e w' ⟨rfl, rfl⟩)
  go_ret
  exact ⟨rfl, rfl⟩

end Go.Proofs.YtjehjjpdicimhaaGreat

/-
  The library's functions at this program's own numbers: the tables that tie each to the contract that the library proves once.
-/
namespace Go.Proofs
open Go.Shelf
def Tryz.lays106_ren : Go.Shelf.Ren := ⟨fun | 106 => 50 | 213 => 66 | 265 => 93 | n => n, fun | 9 => 9 | 3 => 3 | n => n, fun | n => n⟩
theorem Tryz.lays106 : Go.Proofs.Lays.n106 Tryz.prog Tryz.lays106_ren := {
  mixed := by kernel_rfl
  f106 := Tryz.func50.trans (congrArg some (by kernel_rfl))
  f213 := Tryz.func66.trans (congrArg some (by kernel_rfl))
  f265 := Tryz.func93.trans (congrArg some (by kernel_rfl))
  t3 := Tryz.underlying3
  a3 := Tryz.isAgg3
  z3 := Tryz.sizeOf3
  v3 := Tryz.zeroValue3
  t9 := Tryz.underlying9
  a9 := Tryz.isAgg9
  z9 := Tryz.sizeOf9
  v9 := Tryz.zeroValue9 }
open Go.RowKit in
theorem Tryz.strings_Compare (a b : ByteArray) (w : World) :
    Calls Tryz.prog 50 #[.string a, .string b] w fun e w' => e = .returned (.int .i64 (Lib.compareBytes a.data.toList b.data.toList)) ∧ w' = w := Any.strings_Compare Tryz.lays106 a b w
def Tryz.lays219_ren : Go.Shelf.Ren := ⟨fun | 219 => 120 | 217 => 121 | 225 => 122 | 224 => 123 | 267 => 124 | 266 => 125 | 314 => 126 | n => n, fun | 9 => 9 | 3 => 3 | 4 => 4 | 5 => 5 | 46 => 104 | 146 => 143 | 51 => 124 | n => n, fun | 1 => 0 | n => n⟩
theorem Tryz.lays219 : Go.Proofs.Lays.n219 Tryz.prog Tryz.lays219_ren := {
  mixed := by kernel_rfl
  f217 := Tryz.func121.trans (congrArg some (by kernel_rfl))
  f219 := Tryz.func120.trans (congrArg some (by kernel_rfl))
  f224 := Tryz.func123.trans (congrArg some (by kernel_rfl))
  f225 := Tryz.func122.trans (congrArg some (by kernel_rfl))
  f266 := Tryz.func125.trans (congrArg some (by kernel_rfl))
  f267 := Tryz.func124.trans (congrArg some (by kernel_rfl))
  f314 := Tryz.func126.trans (congrArg some (by kernel_rfl))
  t3 := Tryz.underlying3
  a3 := Tryz.isAgg3
  z3 := Tryz.sizeOf3
  v3 := Tryz.zeroValue3
  t4 := Tryz.underlying4
  a4 := Tryz.isAgg4
  z4 := Tryz.sizeOf4
  v4 := Tryz.zeroValue4
  t5 := Tryz.underlying5
  a5 := Tryz.isAgg5
  z5 := Tryz.sizeOf5
  v5 := Tryz.zeroValue5
  t9 := Tryz.underlying9
  a9 := Tryz.isAgg9
  z9 := Tryz.sizeOf9
  v9 := Tryz.zeroValue9
  t46 := Tryz.underlying104
  a46 := Tryz.isAgg104
  z46 := Tryz.sizeOf104
  v46 := Tryz.zeroValue104
  t51 := Tryz.underlying124
  a51 := Tryz.isAgg124
  z51 := Tryz.sizeOf124
  v51 := Tryz.zeroValue124
  t146 := Tryz.underlying143
  a146 := Tryz.isAgg143
  z146 := Tryz.sizeOf143
  v146 := Tryz.zeroValue143
  g1 := by kernel_rfl }
open Go.RowKit Go.Lib in
theorem Tryz.stringslite_Index_one (s : ByteArray) (c : UInt8) (w : World) :
    Calls Tryz.prog 120 #[.string s, .string ⟨#[c]⟩] w fun e w' => e = .returned (.int .i64 (Lib.indexByte s.data.toList c)) ∧ w' = w := Any.stringslite_Index_one Tryz.lays219 s c w
def Tryz.lays143_ren : Go.Shelf.Ren := ⟨fun | 143 => 118 | 219 => 120 | 217 => 121 | 225 => 122 | 224 => 123 | 267 => 124 | 266 => 125 | 314 => 126 | n => n, fun | 9 => 9 | 3 => 3 | 4 => 4 | 5 => 5 | 46 => 104 | 146 => 143 | 51 => 124 | n => n, fun | 1 => 0 | n => n⟩
theorem Tryz.lays143 : Go.Proofs.Lays.n143 Tryz.prog Tryz.lays143_ren := {
  mixed := by kernel_rfl
  f143 := Tryz.func118.trans (congrArg some (by kernel_rfl))
  f217 := Tryz.func121.trans (congrArg some (by kernel_rfl))
  f219 := Tryz.func120.trans (congrArg some (by kernel_rfl))
  f224 := Tryz.func123.trans (congrArg some (by kernel_rfl))
  f225 := Tryz.func122.trans (congrArg some (by kernel_rfl))
  f266 := Tryz.func125.trans (congrArg some (by kernel_rfl))
  f267 := Tryz.func124.trans (congrArg some (by kernel_rfl))
  f314 := Tryz.func126.trans (congrArg some (by kernel_rfl))
  t3 := Tryz.underlying3
  a3 := Tryz.isAgg3
  z3 := Tryz.sizeOf3
  v3 := Tryz.zeroValue3
  t4 := Tryz.underlying4
  a4 := Tryz.isAgg4
  z4 := Tryz.sizeOf4
  v4 := Tryz.zeroValue4
  t5 := Tryz.underlying5
  a5 := Tryz.isAgg5
  z5 := Tryz.sizeOf5
  v5 := Tryz.zeroValue5
  t9 := Tryz.underlying9
  a9 := Tryz.isAgg9
  z9 := Tryz.sizeOf9
  v9 := Tryz.zeroValue9
  t46 := Tryz.underlying104
  a46 := Tryz.isAgg104
  z46 := Tryz.sizeOf104
  v46 := Tryz.zeroValue104
  t51 := Tryz.underlying124
  a51 := Tryz.isAgg124
  z51 := Tryz.sizeOf124
  v51 := Tryz.zeroValue124
  t146 := Tryz.underlying143
  a146 := Tryz.isAgg143
  z146 := Tryz.sizeOf143
  v146 := Tryz.zeroValue143
  g1 := by kernel_rfl }
open Go.RowKit Go.Lib in
theorem Tryz.strings_Index_one (s : ByteArray) (c : UInt8) (w : World) :
    Calls Tryz.prog 118 #[.string s, .string ⟨#[c]⟩] w fun e w' => e = .returned (.int .i64 (Lib.indexByte s.data.toList c)) ∧ w' = w := Any.strings_Index_one Tryz.lays143 s c w
def Tryz.lays144_ren : Go.Shelf.Ren := ⟨fun | 144 => 113 | 143 => 118 | 219 => 120 | 217 => 121 | 225 => 122 | 224 => 123 | 267 => 124 | 266 => 125 | 314 => 126 | n => n, fun | 9 => 9 | 4 => 4 | 3 => 3 | 5 => 5 | 46 => 104 | 146 => 143 | 51 => 124 | n => n, fun | 1 => 0 | n => n⟩
theorem Tryz.lays144 : Go.Proofs.Lays.n144 Tryz.prog Tryz.lays144_ren := {
  mixed := by kernel_rfl
  f143 := Tryz.func118.trans (congrArg some (by kernel_rfl))
  f144 := Tryz.func113.trans (congrArg some (by kernel_rfl))
  f217 := Tryz.func121.trans (congrArg some (by kernel_rfl))
  f219 := Tryz.func120.trans (congrArg some (by kernel_rfl))
  f224 := Tryz.func123.trans (congrArg some (by kernel_rfl))
  f225 := Tryz.func122.trans (congrArg some (by kernel_rfl))
  f266 := Tryz.func125.trans (congrArg some (by kernel_rfl))
  f267 := Tryz.func124.trans (congrArg some (by kernel_rfl))
  f314 := Tryz.func126.trans (congrArg some (by kernel_rfl))
  t3 := Tryz.underlying3
  a3 := Tryz.isAgg3
  z3 := Tryz.sizeOf3
  v3 := Tryz.zeroValue3
  t4 := Tryz.underlying4
  a4 := Tryz.isAgg4
  z4 := Tryz.sizeOf4
  v4 := Tryz.zeroValue4
  t5 := Tryz.underlying5
  a5 := Tryz.isAgg5
  z5 := Tryz.sizeOf5
  v5 := Tryz.zeroValue5
  t9 := Tryz.underlying9
  a9 := Tryz.isAgg9
  z9 := Tryz.sizeOf9
  v9 := Tryz.zeroValue9
  t46 := Tryz.underlying104
  a46 := Tryz.isAgg104
  z46 := Tryz.sizeOf104
  v46 := Tryz.zeroValue104
  t51 := Tryz.underlying124
  a51 := Tryz.isAgg124
  z51 := Tryz.sizeOf124
  v51 := Tryz.zeroValue124
  t146 := Tryz.underlying143
  a146 := Tryz.isAgg143
  z146 := Tryz.sizeOf143
  v146 := Tryz.zeroValue143
  g1 := by kernel_rfl }
open Go.RowKit Go.Lib in
theorem Tryz.strings_Contains_one (s : ByteArray) (c : UInt8) (w : World) :
    Calls Tryz.prog 113 #[.string s, .string ⟨#[c]⟩] w fun e w' => e = .returned (.bool (decide (0 ≤ Lib.indexByte s.data.toList c))) ∧ w' = w := Any.strings_Contains_one Tryz.lays144 s c w
def Tryz.laysNm216_ren : Go.Shelf.Ren := ⟨fun | 16 => 55 | n => n, fun | 24 => 61 | 9 => 9 | 4 => 4 | n => n, fun | n => n⟩
theorem Tryz.laysNm216 : Go.Proofs.Lays2.n16 Tryz.prog Tryz.laysNm216_ren := {
  mixed := by kernel_rfl
  f16 := Tryz.func55.trans (congrArg some (by kernel_rfl))
  t4 := Tryz.underlying4
  a4 := Tryz.isAgg4
  z4 := Tryz.sizeOf4
  v4 := Tryz.zeroValue4
  t9 := Tryz.underlying9
  a9 := Tryz.isAgg9
  z9 := Tryz.sizeOf9
  v9 := Tryz.zeroValue9
  t24 := Tryz.underlying61
  a24 := Tryz.isAgg61
  z24 := Tryz.sizeOf61
  v24 := Tryz.zeroValue61
  i9 := by kernel_rfl }
open Go.RowKit Go.Lib in
theorem Tryz.slices_Clone_string (b off n c : Nat) (zs : List ByteArray) (w : World) (hz : n ≤ zs.length) (hbig : n * 16 ≤ 140737488355328) (hc : ∀ j, j < zs.length → w.cell? ⟨b, off + j, none⟩ = some (.string (zs.getD j ByteArray.empty))) :
    Calls Tryz.prog 55 #[.slice (some ⟨b, off, none⟩) n c] w fun e w' => ∃ v', e = .returned v' ∧ w'.ownsRow w.heap.size 9 1 v' n ((zs.take n).map (Value.string)) ∧ v' ≠ .slice none 0 0 ∧ Below w.heap.size w w' := Any.slices_Clone_string Tryz.laysNm216 b off n c zs w hz hbig hc
open Go.RowKit Go.Lib in
theorem Tryz.slices_Clone_string_nil (n c : Nat) (w : World) :
    Calls Tryz.prog 55 #[.slice none n c] w fun e w' => e = .returned (.slice none 0 0) ∧ w' = w := Any.slices_Clone_string_nil Tryz.laysNm216 n c w
open Go.RowKit Go.Lib in
theorem Tryz.slices_Clone_string_zero (a : Addr) (c : Nat) (w : World) :
    Calls Tryz.prog 55 #[.slice (some a) 0 c] w fun e w' => ∃ v', e = .returned v' ∧ w'.ownsRow w.heap.size 9 1 v' 0 [] ∧ v' ≠ .slice none 0 0 ∧ Below w.heap.size w w' := Any.slices_Clone_string_zero Tryz.laysNm216 a c w
def Tryz.laysSlH8_f73_ren : Go.Shelf.Ren := ⟨fun | 8 => 73 | 6 => 97 | n => n, fun | 22 => 61 | 23 => 9 | 25 => 93 | 4 => 4 | 3 => 3 | 0 => 0 | n => n, fun | n => n⟩
theorem Tryz.laysSlH8_f73 : Go.Proofs.SlLaysH.n8 Tryz.prog Tryz.laysSlH8_f73_ren := {
  mixed := by kernel_rfl
  f6 := ⟨Tryz.f97.name, by decide, Tryz.func97.trans (congrArg some (by kernel_rfl))⟩
  f8 := ⟨Tryz.f73.name, by decide, Tryz.func73.trans (congrArg some (by kernel_rfl))⟩
  t0 := Tryz.underlying0
  a0 := Tryz.isAgg0
  z0 := Tryz.sizeOf0
  v0 := Tryz.zeroValue0
  t3 := Tryz.underlying3
  a3 := Tryz.isAgg3
  z3 := Tryz.sizeOf3
  v3 := Tryz.zeroValue3
  t4 := Tryz.underlying4
  a4 := Tryz.isAgg4
  z4 := Tryz.sizeOf4
  v4 := Tryz.zeroValue4
  t22 := Tryz.underlying61
  a22 := Tryz.isAgg61
  z22 := Tryz.sizeOf61
  v22 := Tryz.zeroValue61
  a23 := Tryz.isAgg9
  z23 := Tryz.sizeOf9
  t25 := Tryz.underlying93
  a25 := Tryz.isAgg93
  z25 := Tryz.sizeOf93
  v25 := Tryz.zeroValue93 }
open Go.RowKit Go.Lib in
theorem Tryz.slices_ContainsFunc {α : Type} [Inhabited α] (enc : α → Value) (p : α → Bool) (g : Nat) (lb : Array Value) (eg : ∀ args w, (callFunc g args).run Tryz.prog w = .ok (.enter g args) w) (b off n c : Nat) (zs : List α) (w : World) (hp : PredAt Tryz.prog g lb enc p w) (hz : n ≤ zs.length) (hbig : n ≤ 9223372036854775807) (hc : ∀ j, j < zs.length → w.cell? ⟨b, off + j, none⟩ = some (enc zs[j]!)) :
    Calls Tryz.prog 73 #[.slice (some ⟨b, off, none⟩) n c, .func (.func g) #[] lb] w fun e w' => e = .returned (.bool ((zs.take n).any p)) ∧ ∃ q, w' = w.drewN q := AnyE.slices_ContainsFunc Tryz.laysSlH8_f73 enc p g lb eg b off n c zs w hp hz hbig hc
open Go.RowKit Go.Lib in
theorem Tryz.slices_ContainsFunc_empty {α : Type} [Inhabited α] (a : Option Addr) (c : Nat) (fv : Value) (w : World) :
    Calls Tryz.prog 73 #[.slice a 0 c, fv] w fun e w' => e = .returned (.bool false) ∧ w' = w := AnyE.slices_ContainsFunc_empty Tryz.laysSlH8_f73 a c fv w
def Tryz.lays99_ren : Go.Shelf.Ren := ⟨fun | 99 => 101 | 206 => 114 | n => n, fun | 9 => 9 | 4 => 4 | 3 => 3 | n => n, fun | n => n⟩
theorem Tryz.lays99 : Go.Proofs.Lays.n99 Tryz.prog Tryz.lays99_ren := {
  mixed := by kernel_rfl
  f99 := Tryz.func101.trans (congrArg some (by kernel_rfl))
  f206 := Tryz.func114.trans (congrArg some (by kernel_rfl))
  t3 := Tryz.underlying3
  a3 := Tryz.isAgg3
  z3 := Tryz.sizeOf3
  v3 := Tryz.zeroValue3
  t4 := Tryz.underlying4
  a4 := Tryz.isAgg4
  z4 := Tryz.sizeOf4
  v4 := Tryz.zeroValue4
  t9 := Tryz.underlying9
  a9 := Tryz.isAgg9
  z9 := Tryz.sizeOf9
  v9 := Tryz.zeroValue9 }
open Go.RowKit Go.Lib in
theorem Tryz.strings_HasPrefix (s p : ByteArray) (w : World) :
    Calls Tryz.prog 101 #[.string s, .string p] w fun e w' => e = .returned (.bool (Lib.hasPrefix s.data.toList p.data.toList)) ∧ w' = w := Any.strings_HasPrefix Tryz.lays99 s p w
def Tryz.lays125_ren : Go.Shelf.Ren := ⟨fun | 125 => 65 | 128 => 91 | 129 => 92 | n => n, fun | 46 => 104 | 3 => 3 | 51 => 124 | 53 => 49 | 4 => 4 | 5 => 5 | 9 => 9 | n => n, fun | n => n⟩
theorem Tryz.lays125 : Go.Proofs.Lays.n125 Tryz.prog Tryz.lays125_ren := {
  mixed := by kernel_rfl
  f125 := Tryz.func65.trans (congrArg some (by kernel_rfl))
  f128 := Tryz.func91.trans (congrArg some (by kernel_rfl))
  f129 := Tryz.func92.trans (congrArg some (by kernel_rfl))
  t3 := Tryz.underlying3
  a3 := Tryz.isAgg3
  z3 := Tryz.sizeOf3
  v3 := Tryz.zeroValue3
  t4 := Tryz.underlying4
  a4 := Tryz.isAgg4
  z4 := Tryz.sizeOf4
  v4 := Tryz.zeroValue4
  t5 := Tryz.underlying5
  a5 := Tryz.isAgg5
  z5 := Tryz.sizeOf5
  v5 := Tryz.zeroValue5
  t9 := Tryz.underlying9
  a9 := Tryz.isAgg9
  z9 := Tryz.sizeOf9
  v9 := Tryz.zeroValue9
  t46 := Tryz.underlying104
  a46 := Tryz.isAgg104
  z46 := Tryz.sizeOf104
  v46 := Tryz.zeroValue104
  t51 := Tryz.underlying124
  a51 := Tryz.isAgg124
  z51 := Tryz.sizeOf124
  v51 := Tryz.zeroValue124
  t53 := Tryz.underlying49
  a53 := Tryz.isAgg49
  z53 := Tryz.sizeOf49
  v53 := Tryz.zeroValue49 }
theorem Tryz.bits_Len (x : Int) (w : World) (h0 : 0 ≤ x) (h1 : x ≤ 18446744073709551615) :
    Calls Tryz.prog 65 #[.int .u64 x] w fun e w' => e = .returned (.int .i64 (Lib.bitLen x.toNat)) ∧ w' = w := Any.bits_Len Tryz.lays125 x w h0 h1
def Tryz.cloneFld_ren : Go.Shelf.Ren := ⟨fun | 41 => 54 | n => n, fun | 22 => 32 | 23 => 63 | 4 => 4 | n => n, fun | n => n⟩
theorem Tryz.cloneFld : Go.Proofs.SlLaysE0.n41 Tryz.prog Tryz.cloneFld_ren := {
  mixed := by kernel_rfl
  f41 := ⟨Tryz.f54.name, by decide, Tryz.func54.trans (congrArg some (by kernel_rfl))⟩
  t4 := Tryz.underlying4
  a4 := Tryz.isAgg4
  z4 := Tryz.sizeOf4
  v4 := Tryz.zeroValue4
  t22 := Tryz.underlying32
  a22 := Tryz.isAgg32
  z22 := Tryz.sizeOf32
  v22 := Tryz.zeroValue32 }
def Tryz.insFnd_ren : Go.Shelf.Ren := ⟨fun | 20 => 78 | n => n, fun | 24 => 53 | 22 => 34 | 3 => 3 | 25 => 84 | 4 => 4 | 0 => 0 | n => n, fun | n => n⟩
theorem Tryz.insFnd : Go.Proofs.SlLaysF0.n20 Tryz.prog Tryz.insFnd_ren := {
  mixed := by kernel_rfl
  f20 := ⟨Tryz.f78.name, by decide, Tryz.func78.trans (congrArg some (by kernel_rfl))⟩
  t0 := Tryz.underlying0
  a0 := Tryz.isAgg0
  z0 := Tryz.sizeOf0
  v0 := Tryz.zeroValue0
  t3 := Tryz.underlying3
  a3 := Tryz.isAgg3
  z3 := Tryz.sizeOf3
  v3 := Tryz.zeroValue3
  t4 := Tryz.underlying4
  a4 := Tryz.isAgg4
  z4 := Tryz.sizeOf4
  v4 := Tryz.zeroValue4
  t22 := Tryz.underlying34
  a22 := Tryz.isAgg34
  z22 := Tryz.sizeOf34
  v22 := Tryz.zeroValue34
  t25 := Tryz.underlying84
  a25 := Tryz.isAgg84
  z25 := Tryz.sizeOf84
  v25 := Tryz.zeroValue84 }
def Tryz.sortKey_ren : Go.Shelf.Ren := ⟨fun | 6 => 47 | 15 => 65 | 14 => 64 | 28 => 91 | 29 => 92 | 20 => 83 | 21 => 84 | 22 => 85 | 23 => 86 | 24 => 87 | 25 => 88 | 26 => 89 | 27 => 90 | 46 => 107 | 47 => 108 | 48 => 109 | 49 => 110 | 50 => 111 | 57 => 116 | n => n, fun | 22 => 39 | 24 => 31 | 25 => 74 | 3 => 3 | 39 => 104 | 0 => 0 | 53 => 124 | 55 => 49 | 4 => 4 | 46 => 117 | 45 => 116 | 50 => 121 | 5 => 5 | 9 => 9 | 66 => 128 | 70 => 132 | 76 => 136 | 77 => 137 | n => n, fun | n => n⟩
theorem Tryz.sortKey : Go.Proofs.SlLaysF0.n6 Tryz.prog Tryz.sortKey_ren := {
  mixed := by kernel_rfl
  f6 := ⟨Tryz.f47.name, by decide, Tryz.func47.trans (congrArg some (by kernel_rfl))⟩
  f14 := ⟨Tryz.f64.name, by decide, Tryz.func64.trans (congrArg some (by kernel_rfl))⟩
  f15 := Tryz.func65.trans (congrArg some (by kernel_rfl))
  f20 := ⟨Tryz.f83.name, by decide, Tryz.func83.trans (congrArg some (by kernel_rfl))⟩
  f21 := ⟨Tryz.f84.name, by decide, Tryz.func84.trans (congrArg some (by kernel_rfl))⟩
  f22 := ⟨Tryz.f85.name, by decide, Tryz.func85.trans (congrArg some (by kernel_rfl))⟩
  f23 := ⟨Tryz.f86.name, by decide, Tryz.func86.trans (congrArg some (by kernel_rfl))⟩
  f24 := ⟨Tryz.f87.name, by decide, Tryz.func87.trans (congrArg some (by kernel_rfl))⟩
  f25 := ⟨Tryz.f88.name, by decide, Tryz.func88.trans (congrArg some (by kernel_rfl))⟩
  f26 := ⟨Tryz.f89.name, by decide, Tryz.func89.trans (congrArg some (by kernel_rfl))⟩
  f27 := ⟨Tryz.f90.name, by decide, Tryz.func90.trans (congrArg some (by kernel_rfl))⟩
  f28 := Tryz.func91.trans (congrArg some (by kernel_rfl))
  f29 := Tryz.func92.trans (congrArg some (by kernel_rfl))
  f46 := ⟨Tryz.f107.name, by decide, Tryz.func107.trans (congrArg some (by kernel_rfl))⟩
  f47 := Tryz.func108.trans (congrArg some (by kernel_rfl))
  f48 := Tryz.func109.trans (congrArg some (by kernel_rfl))
  f49 := ⟨Tryz.f110.name, by decide, Tryz.func110.trans (congrArg some (by kernel_rfl))⟩
  f50 := ⟨Tryz.f111.name, by decide, Tryz.func111.trans (congrArg some (by kernel_rfl))⟩
  f57 := ⟨Tryz.f116.name, by decide, Tryz.func116.trans (congrArg some (by kernel_rfl))⟩
  t0 := Tryz.underlying0
  a0 := Tryz.isAgg0
  z0 := Tryz.sizeOf0
  v0 := Tryz.zeroValue0
  t3 := Tryz.underlying3
  a3 := Tryz.isAgg3
  z3 := Tryz.sizeOf3
  v3 := Tryz.zeroValue3
  t4 := Tryz.underlying4
  a4 := Tryz.isAgg4
  z4 := Tryz.sizeOf4
  v4 := Tryz.zeroValue4
  t5 := Tryz.underlying5
  a5 := Tryz.isAgg5
  z5 := Tryz.sizeOf5
  v5 := Tryz.zeroValue5
  t9 := Tryz.underlying9
  a9 := Tryz.isAgg9
  z9 := Tryz.sizeOf9
  v9 := Tryz.zeroValue9
  t22 := Tryz.underlying39
  a22 := Tryz.isAgg39
  z22 := Tryz.sizeOf39
  v22 := Tryz.zeroValue39
  t25 := Tryz.underlying74
  a25 := Tryz.isAgg74
  z25 := Tryz.sizeOf74
  v25 := Tryz.zeroValue74
  t39 := Tryz.underlying104
  a39 := Tryz.isAgg104
  z39 := Tryz.sizeOf104
  v39 := Tryz.zeroValue104
  t45 := Tryz.underlying116
  a45 := Tryz.isAgg116
  z45 := Tryz.sizeOf116
  v45 := Tryz.zeroValue116
  t46 := Tryz.underlying117
  a46 := Tryz.isAgg117
  z46 := Tryz.sizeOf117
  v46 := Tryz.zeroValue117
  t50 := Tryz.underlying121
  a50 := Tryz.isAgg121
  z50 := Tryz.sizeOf121
  v50 := Tryz.zeroValue121
  t53 := Tryz.underlying124
  a53 := Tryz.isAgg124
  z53 := Tryz.sizeOf124
  v53 := Tryz.zeroValue124
  t55 := Tryz.underlying49
  a55 := Tryz.isAgg49
  z55 := Tryz.sizeOf49
  v55 := Tryz.zeroValue49
  t66 := Tryz.underlying128
  a66 := Tryz.isAgg128
  z66 := Tryz.sizeOf128
  v66 := Tryz.zeroValue128
  t70 := Tryz.underlying132
  a70 := Tryz.isAgg132
  z70 := Tryz.sizeOf132
  v70 := Tryz.zeroValue132
  t76 := Tryz.underlying136
  a76 := Tryz.isAgg136
  z76 := Tryz.sizeOf136
  v76 := Tryz.zeroValue136
  t77 := Tryz.underlying137
  a77 := Tryz.isAgg137
  z77 := Tryz.sizeOf137
  v77 := Tryz.zeroValue137 }
end Go.Proofs

/-
  Fields: the plain words, how they lie in memory, and the contracts of the functions that look at one field.
-/
namespace Go.Proofs.YtjehjjpdicimhaaGreat
open Go.RowKit

/-- A field: its name, and its texts. -/
abbrev Fld := ByteArray × List ByteArray

/-- A field as it lies: its name, its texts' address and capacity; and, beside it, what its texts are. -/
structure Fx where
  name : ByteArray
  p : Option Addr
  cap : Nat
  txt : List ByteArray
  deriving Inhabited

def Fx.sl (x : Fx) : Value := .slice x.p x.txt.length x.cap
def Fx.fld (x : Fx) : Fld := (x.name, x.txt)
def encX (x : Fx) : List Value := [.string x.name, x.sl]
def Fx.val (x : Fx) : Value := .agg (encX x).toArray

/-- The texts of x lie where its slice says. -/
def TxtAt (w : World) (p : Option Addr) (ts : List ByteArray) : Prop :=
  ts = [] ∨ ∃ b off, p = some ⟨b, off, none⟩ ∧ ∀ i, (h : i < ts.length) → w.cell? ⟨b, off + i, none⟩ = some (.string ts[i])

def Fx.at (w : World) (x : Fx) : Prop := TxtAt w x.p x.txt

/-- The fields d lie from off on in block b. -/
def XsAt (w : World) (b off : Nat) (d : List Fx) : Prop :=
  ∀ i, (h : i < d.length) → w.cell? ⟨b, off + i * 2, none⟩ = some (.string d[i].name) ∧ w.cell? ⟨b, off + i * 2 + 1, none⟩ = some d[i].sl

/-- v is a slice that holds the fields d. -/
def IsXs (w : World) (v : Value) (d : List Fx) : Prop :=
  ∃ p cap, v = .slice p d.length cap ∧ (d = [] ∨ ∃ b off, p = some ⟨b, off, none⟩ ∧ XsAt w b off d) ∧ ∀ x ∈ d, x.at w

/-- Texts, and fields, that a machine can hold. -/
def FitT (ts : List ByteArray) : Prop := ts.length ≤ maxLen ∧ ∀ t ∈ ts, t.size ≤ maxLen
def FitF (f : Fld) : Prop := f.1.size ≤ maxLen ∧ FitT f.2
def FitX (d : List Fx) : Prop := d.length ≤ maxLen ∧ ∀ x ∈ d, FitF x.fld

theorem cell_block {w : World} {a : Addr} {v : Value} (h : w.cell? a = some v) : a.block < w.heap.size := by
  rcases Nat.lt_or_ge a.block w.heap.size with h' | h'
  · exact h'
  · simp [World.cell?, Array.getElem?_eq_none h'] at h

theorem TxtAt.kept {w w' : World} {p : Option Addr} {ts : List ByteArray} (h : TxtAt w p ts) (hb : Below w.heap.size w w') : TxtAt w' p ts := by
  rcases h with h | ⟨b, off, hp, h⟩
  · exact Or.inl h
  · exact Or.inr ⟨b, off, hp, fun i hi => (hb.cell (p := ⟨b, off + i, none⟩) (cell_block (h i hi))).trans (h i hi)⟩

theorem XsAt.kept {w w' : World} {b off : Nat} {d : List Fx} (h : XsAt w b off d) (hb : Below w.heap.size w w') : XsAt w' b off d :=
  fun i hi => ⟨(hb.cell (p := ⟨b, off + i * 2, none⟩) (cell_block (h i hi).1)).trans (h i hi).1, (hb.cell (p := ⟨b, off + i * 2 + 1, none⟩) (cell_block (h i hi).2)).trans (h i hi).2⟩

theorem IsXs.at_all {w : World} {v : Value} {d : List Fx} (h : IsXs w v d) : ∀ x ∈ d, x.at w := by
  obtain ⟨_, _, _, _, h⟩ := h
  exact h

theorem IsXs.kept {w w' : World} {v : Value} {d : List Fx} (h : IsXs w v d) (hb : Below w.heap.size w w') : IsXs w' v d := by
  obtain ⟨p, cap, rfl, h, ht⟩ := h
  refine ⟨p, cap, rfl, ?_, fun x hx => (ht x hx).kept hb⟩
  rcases h with h | ⟨b, off, hp, h⟩
  · exact Or.inl h
  · exact Or.inr ⟨b, off, hp, h.kept hb⟩

/-- A field that a normal value may have. -/
def longB (t : ByteArray) : Bool := decide (128 < t.size)
def fitsB (f : Fld) : Bool := fieldB f.1.data.toList && !f.2.isEmpty && decide (f.2.length ≤ 8) && !f.2.any longB

set_option maxHeartbeats 1000000 in
theorem misnamed_any (x : Fx) (w : World) (hs : x.name.size ≤ maxLen) : Calls Tryz.prog 71 #[x.val] w fun e w' => e = .returned (.bool (!fieldB x.name.data.toList)) ∧ Grown w w' := by
  obtain ⟨nm, p, cap, ts⟩ := x
  simp only [Fx.val, encX, Fx.sl] at hs ⊢
  go_enter Tryz.func71, Tryz.ntmps71
  go_wp2_with (go_at_call 96; refine (field_any _ _ hs).mono ?_; rintro e w' ⟨rfl, rfl⟩)
  go_ret
  exact ⟨rfl, (Grown.refl _).alloc _⟩

set_option maxHeartbeats 1000000 in
theorem bare_any (x : Fx) (w : World) : Calls Tryz.prog 72 #[x.val] w fun e w' => e = .returned (.bool x.txt.isEmpty) ∧ Grown w w' := by
  obtain ⟨nm, p, cap, ts⟩ := x
  simp only [Fx.val, encX, Fx.sl]
  have HE : Hid (decide ((ts.length : Int) = 0) = ts.isEmpty) := by
    show _ = _
    cases ts <;> simp
    omega
  go_enter Tryz.func72, Tryz.ntmps72
  go_wp2_with fail
  go_ret
  exact ⟨ret_bool HE.out, (Grown.refl _).alloc _⟩

set_option maxHeartbeats 1000000 in
theorem tooLong_any (t : ByteArray) (w : World) : Calls Tryz.prog 74 #[.string t] w fun e w' => e = .returned (.bool (longB t)) ∧ w' = w := by
  have HE : Hid (decide ((128 : Int) < t.size) = longB t) := by
    show _ = _
    unfold longB
    rw [Bool.eq_iff_iff]; simp; omega
  go_enter Tryz.func74, Tryz.ntmps74
  go_wp2_with fail
  go_ret
  exact ⟨ret_bool HE.out, rfl⟩

end Go.Proofs.YtjehjjpdicimhaaGreat

/-
  Chains (stage 6), without the program: versions whose stamps rise; what is visible at a stamp, since a stamp, and what a prune leaves.
-/
namespace Go.Proofs.YtjehjjpdicimhaaGreat

structure Vr where
  num : Int
  stamp : Int
  tick : Int
  live : Bool
  val : List (ByteArray × List ByteArray)
  deriving Inhabited, DecidableEq

/-- The version that there is none: what Go's zero value is. -/
def zeroV : Vr := ⟨0, 0, 0, false, []⟩

/-- How many stand at or below t, from the first on. -/
def cutV (l : List Vr) (t : Int) : Nat := (l.takeWhile fun v => decide (v.stamp ≤ t)).length
def atV (l : List Vr) (t : Int) : Option Vr := if cutV l t = 0 then none else l[cutV l t - 1]?
def sinceV (l : List Vr) (t : Int) : List Vr := l.drop (cutV l t)
def pruneN (l : List Vr) (f : Int) : Nat := cutV l f - 1
def pruneV (l : List Vr) (f : Int) : List Vr := l.drop (pruneN l f)

def RiseV (l : List Vr) : Prop := l.Pairwise fun a b => a.stamp < b.stamp

/-- What holds of every chain. -/
structure OkV (l : List Vr) : Prop where
  rise : RiseV l
  nums : ∀ i, (h : i + 1 < l.length) → (l[i + 1]).num = (l[i]'(by omega)).num + 1
  two : ∀ i, (h : i + 1 < l.length) → (l[i + 1]).live = true ∨ (l[i]'(by omega)).live = true
  first : ∀ v ∈ l, 1 ≤ v.num ∧ 0 < v.stamp ∧ (v.num = 1 → v.live = true) ∧ (v.live = false → v.val = [])

theorem rise_lt {l : List Vr} (h : RiseV l) {i j : Nat} (hij : i < j) (hj : j < l.length) : (l[i]'(by omega)).stamp < (l[j]).stamp := List.pairwise_iff_getElem.1 h i j (by omega) hj hij

theorem cutV_le (l : List Vr) (t : Int) : cutV l t ≤ l.length := by
  unfold cutV
  exact (List.takeWhile_prefix _).length_le

theorem cutV_cons (v : Vr) (l : List Vr) (t : Int) : cutV (v :: l) t = if v.stamp ≤ t then cutV l t + 1 else 0 := by
  unfold cutV
  by_cases h : v.stamp ≤ t
  · rw [List.takeWhile_cons_of_pos (by simpa using h), if_pos h]; rfl
  · rw [List.takeWhile_cons_of_neg (by simpa using h), if_neg h]; rfl

/-- Those ahead of the cut stand at or below t. -/
theorem cutV_below : ∀ (l : List Vr) (t : Int) (i : Nat) (h : i < l.length), i < cutV l t → (l[i]).stamp ≤ t
  | [], _, i, h, _ => by simp at h
  | v :: l, t, i, h, hc => by
    rw [cutV_cons] at hc
    by_cases hv : v.stamp ≤ t
    · rw [if_pos hv] at hc
      cases i with
      | zero => exact hv
      | succ i => exact cutV_below l t i (by simpa using h) (by omega)
    · rw [if_neg hv] at hc; omega

/-- Those behind it above. -/
theorem cutV_above : ∀ (l : List Vr), RiseV l → ∀ (t : Int) (i : Nat) (h : i < l.length), cutV l t ≤ i → t < (l[i]).stamp
  | [], _, _, i, h, _ => by simp at h
  | v :: l, hr, t, i, h, hc => by
    obtain ⟨h1, h2⟩ := List.pairwise_cons.1 hr
    rw [cutV_cons] at hc
    by_cases hv : v.stamp ≤ t
    · rw [if_pos hv] at hc
      cases i with
      | zero => omega
      | succ i => exact cutV_above l h2 t i (by simpa using h) (by omega)
    · cases i with
      | zero => exact Int.not_le.1 hv
      | succ i =>
        have := h1 (l[i]'(by simpa using h)) (List.getElem_mem _)
        simp only [List.getElem_cons_succ]
        omega

theorem cutV_uniq {l : List Vr} (hr : RiseV l) {t : Int} {n : Nat} (hn : n ≤ l.length) (h1 : ∀ i, (h : i < l.length) → i < n → (l[i]).stamp ≤ t) (h2 : ∀ i, (h : i < l.length) → n ≤ i → t < (l[i]).stamp) : cutV l t = n := by
  have hc := cutV_le l t
  rcases Nat.lt_trichotomy (cutV l t) n with h | h | h
  · have a := h1 (cutV l t) (by omega) h
    have b := cutV_above l hr t (cutV l t) (by omega) (Nat.le_refl _)
    omega
  · exact h
  · have a := h2 n (by omega) (Nat.le_refl _)
    have b := cutV_below l t n (by omega) h
    omega

theorem rise_drop {l : List Vr} (h : RiseV l) (n : Nat) : RiseV (l.drop n) := h.sublist (List.drop_sublist n l)

theorem cutV_drop {l : List Vr} (hr : RiseV l) {t : Int} {n : Nat} (hn : n ≤ cutV l t) : cutV (l.drop n) t = cutV l t - n := by
  have hc := cutV_le l t
  refine cutV_uniq (rise_drop hr n) (by rw [List.length_drop]; omega) (fun i h hi => ?_) (fun i h hi => ?_)
  · rw [List.length_drop] at h
    rw [List.getElem_drop]
    exact cutV_below l t _ (by omega) (by omega)
  · rw [List.length_drop] at h
    rw [List.getElem_drop]
    exact cutV_above l hr t _ (by omega) (by omega)

theorem cutV_mono {l : List Vr} (hr : RiseV l) {t u : Int} (h : t ≤ u) : cutV l t ≤ cutV l u := by
  have hc := cutV_le l t
  have hd := cutV_le l u
  rcases Nat.lt_or_ge (cutV l u) (cutV l t) with hlt | hge
  · have a := cutV_below l t (cutV l u) (by omega) hlt
    have b := cutV_above l hr u (cutV l u) (by omega) (Nat.le_refl _)
    omega
  · exact hge

/-- Nothing at f or above is seen to change by a prune. -/
theorem prune_at {l : List Vr} (hr : RiseV l) {f t : Int} (h : f ≤ t) : atV (pruneV l f) t = atV l t := by
  have hm := cutV_mono hr h
  unfold atV pruneV pruneN
  rw [cutV_drop hr (by omega)]
  by_cases h0 : cutV l t = 0
  · rw [if_pos h0, if_pos (by omega)]
  · by_cases h1 : cutV l f = 0
    · rw [h1]; simp
    · rw [if_neg h0, if_neg (by omega), List.getElem?_drop]
      congr 1
      omega

theorem prune_since {l : List Vr} (hr : RiseV l) {f t : Int} (h : f ≤ t) : sinceV (pruneV l f) t = sinceV l t := by
  have hm := cutV_mono hr h
  unfold sinceV pruneV pruneN
  rw [cutV_drop hr (by omega), List.drop_drop]
  congr 1
  omega

theorem prune_last (l : List Vr) (f : Int) : (pruneV l f).getLast? = l.getLast? := by
  unfold pruneV pruneN
  have hc := cutV_le l f
  rw [List.getLast?_eq_getElem?, List.getLast?_eq_getElem?, List.getElem?_drop, List.length_drop]
  by_cases h0 : l.length = 0
  · rw [List.length_eq_zero_iff.1 h0]; simp
  · congr 1
    omega

theorem prune_twice {l : List Vr} (hr : RiseV l) (f : Int) : pruneN (pruneV l f) f = 0 := by
  unfold pruneV pruneN
  rw [cutV_drop hr (by omega)]
  omega

theorem prune_len (l : List Vr) (f : Int) : (pruneV l f).length = l.length - pruneN l f := by unfold pruneV; rw [List.length_drop]

/-- What is left begins with what was visible. -/
theorem prune_head {l : List Vr} {f : Int} {v : Vr} (h : atV l f = some v) : (pruneV l f)[0]? = some v := by
  unfold atV at h
  split at h
  · cases h
  · unfold pruneV pruneN
    rw [List.getElem?_drop, Nat.add_zero]
    exact h

theorem ok_nil : OkV [] := ⟨List.Pairwise.nil, fun i h => by simp at h, fun i h => by simp at h, fun v h => by cases h⟩

theorem ok_drop {l : List Vr} (h : OkV l) (n : Nat) : OkV (l.drop n) := by
  refine ⟨rise_drop h.rise n, fun i hi => ?_, fun i hi => ?_, fun v hv => h.first v (List.mem_of_mem_drop hv)⟩
  · rw [List.length_drop] at hi
    rw [List.getElem_drop, List.getElem_drop]
    exact h.nums (n + i) (by omega)
  · rw [List.length_drop] at hi
    rw [List.getElem_drop, List.getElem_drop]
    exact h.two (n + i) (by omega)

theorem ok_prune {l : List Vr} (h : OkV l) (f : Int) : OkV (pruneV l f) := ok_drop h _

theorem ok_num {l : List Vr} (h : OkV l) : ∀ i, (hi : i < l.length) → (l[i]).num = (l[0]'(by omega)).num + i
  | 0, _ => by simp
  | i + 1, hi => by
    rw [h.nums i hi, ok_num h i (by omega)]
    omega

theorem ok_cut {l : List Vr} (h : OkV l) (i : Nat) (hi : i < l.length) : cutV l (l[i]).stamp = i + 1 := by
  refine cutV_uniq h.rise (by omega) (fun j hj hji => ?_) (fun j hj hij => rise_lt h.rise (by omega) hj)
  rcases Nat.lt_or_ge j i with hlt | hge
  · have := rise_lt h.rise hlt hi
    omega
  · obtain rfl : j = i := by omega
    exact Int.le_refl _

/-- Each is found by its stamp. -/
theorem ok_at {l : List Vr} (h : OkV l) (i : Nat) (hi : i < l.length) : atV l (l[i]).stamp = some l[i] := by
  unfold atV
  rw [ok_cut h i hi, if_neg (by omega), Nat.add_sub_cancel, List.getElem?_eq_getElem hi]

/-- The one with the number n. -/
def numV (l : List Vr) (n : Int) : Option Vr := l.find? fun v => decide (v.num = n)
theorem ok_find {l : List Vr} (h : OkV l) (i : Nat) (hi : i < l.length) : numV l (l[i]).num = some l[i] := by
  unfold numV
  rw [List.find?_eq_some_iff_getElem]
  refine ⟨by simp, i, hi, rfl, fun j hj => ?_⟩
  have a := ok_num h i hi
  have b := ok_num h j (by omega)
  simp only [Bool.not_eq_true', decide_eq_false_iff_not]
  omega

theorem since_zero {l : List Vr} (h : OkV l) : sinceV l 0 = l := by
  unfold sinceV
  have : cutV l 0 = 0 := cutV_uniq h.rise (Nat.zero_le _) (fun i _ hi => by omega) (fun i hi _ => (h.first _ (List.getElem_mem hi)).2.1)
  rw [this, List.drop_zero]

/-- Put: the code (ErrOld, ErrField, ErrNone as old, field, none), and what is there behind it. -/
def lastV (l : List Vr) : Vr := l.getLast?.getD zeroV
def putCode (old field none : Int) (may : Bool) (l : List Vr) (stamp : Int) (live : Bool) : Int :=
  if stamp = 0 ∨ stamp ≤ (lastV l).stamp then old else if live = true ∧ may = false then field else if live = false ∧ (lastV l).live = false then none else 0
def putV (l : List Vr) (stamp tick : Int) (live : Bool) (val : List (ByteArray × List ByteArray)) : List Vr := l ++ [⟨(lastV l).num + 1, stamp, tick, live, if live then val else []⟩]

theorem lastV_snoc (l : List Vr) (v : Vr) : lastV (l ++ [v]) = v := by simp [lastV]

theorem lastV_get {l : List Vr} (h : 0 < l.length) : lastV l = l[l.length - 1] := by
  unfold lastV
  rw [List.getLast?_eq_getElem?, List.getElem?_eq_getElem (by omega)]
  rfl

theorem ok_put {l : List Vr} (h : OkV l) {old field none : Int} {may : Bool} {stamp tick : Int} {live : Bool} {val : List (ByteArray × List ByteArray)} (h0 : 0 ≤ stamp) (e1 : old ≠ 0) (e2 : field ≠ 0) (e3 : none ≠ 0) (hc : putCode old field none may l stamp live = 0) : OkV (putV l stamp tick live val) := by
  unfold putCode at hc
  split at hc
  · exact absurd hc e1
  · next hs =>
    split at hc
    · exact absurd hc e2
    · split at hc
      · exact absurd hc e3
      · next hl =>
        have hl' : live = true ∨ (lastV l).live = true := by
          cases live
          · right
            cases hx : (lastV l).live
            · exact absurd ⟨rfl, hx⟩ hl
            · rfl
          · exact Or.inl rfl
        have hs' : ¬ stamp = 0 ∧ (lastV l).stamp < stamp := ⟨fun e => hs (Or.inl e), Int.not_le.1 fun e => hs (Or.inr e)⟩
        refine ⟨?_, fun i hi => ?_, fun i hi => ?_, fun v hv => ?_⟩
        · refine List.pairwise_append.2 ⟨h.rise, List.pairwise_singleton _ _, fun a ha b hb => ?_⟩
          rw [List.mem_singleton] at hb
          subst hb
          obtain ⟨i, hi, rfl⟩ := List.mem_iff_getElem.1 ha
          have hg := lastV_get (l := l) (by omega)
          show (l[i]).stamp < stamp
          rcases Nat.lt_or_ge i (l.length - 1) with hlt | hge
          · have := rise_lt h.rise hlt (by omega)
            rw [hg] at hs'
            omega
          · have e : i = l.length - 1 := by omega
            subst e
            rw [hg] at hs'
            exact hs'.2
        · unfold putV at hi ⊢
          rw [List.length_append, List.length_singleton] at hi
          rcases Nat.lt_or_ge (i + 1) l.length with hlt | hge
          · rw [List.getElem_append_left hlt, List.getElem_append_left (by omega)]
            exact h.nums i hlt
          · have e : i = l.length - 1 := by omega
            subst e
            rw [List.getElem_append_right (by omega), List.getElem_append_left (by omega)]
            simp only [List.getElem_singleton]
            rw [lastV_get (by omega)]
        · unfold putV at hi ⊢
          rw [List.length_append, List.length_singleton] at hi
          rcases Nat.lt_or_ge (i + 1) l.length with hlt | hge
          · rw [List.getElem_append_left hlt, List.getElem_append_left (by omega)]
            exact h.two i hlt
          · have e : i = l.length - 1 := by omega
            subst e
            rw [List.getElem_append_right (by omega), List.getElem_append_left (by omega)]
            simp only [List.getElem_singleton]
            rw [lastV_get (by omega)] at hl'
            exact hl'
        · unfold putV at hv
          rw [List.mem_append, List.mem_singleton] at hv
          rcases hv with hv | rfl
          · exact h.first v hv
          · have hn : 0 ≤ (lastV l).num ∧ ((lastV l).live = true → 1 ≤ (lastV l).num) := by
              rcases Nat.eq_zero_or_pos l.length with e | e
              · obtain rfl := List.length_eq_zero_iff.1 e
                exact ⟨Int.le_refl _, fun h => by cases h⟩
              · rw [lastV_get e]
                have := (h.first _ (List.getElem_mem (show l.length - 1 < l.length by omega))).1
                exact ⟨by omega, fun _ => this⟩
            refine ⟨by show 1 ≤ (lastV l).num + 1; omega, by show 0 < stamp; omega, fun e => ?_, fun e => ?_⟩
            · show live = true
              rcases hl' with hl' | hl'
              · exact hl'
              · have := hn.2 hl'
                have e' : (lastV l).num + 1 = 1 := e
                omega
            · have e' : live = false := e
              show (if live = true then val else []) = []
              rw [e']; rfl

end Go.Proofs.YtjehjjpdicimhaaGreat

/-
  The contracts of Type, ID and Temp of package name.
-/
namespace Go.Proofs.YtjehjjpdicimhaaGreat
open Go.RowKit

set_option maxHeartbeats 1000000 in
theorem id_any (n : Int) (w : World) : Calls Tryz.prog 70 #[.int .u8 n] w fun e w' => e = .returned (.bool (idB n)) ∧ w' = w := by
  go_enter Tryz.func70, Tryz.ntmps70
  go_wp2
  all_goals go_ret
  all_goals refine ⟨ret_bool ?_, rfl⟩
  all_goals (rw [Bool.eq_iff_iff]; simp_all [idB, lodB, digB, letB, bigB, smallB]; try omega)

set_option maxHeartbeats 1000000 in
theorem spelled_type (s : ByteArray) (w : World) (hs : s.size ≤ maxLen) :
    Calls Tryz.prog 67 #[.string s, .func (.func 68) #[] #[], .func (.func 69) #[] #[]] w fun e w' => e = .returned (.bool (typeB s.data.toList)) ∧ w' = w := by
  unfold maxLen at hs
  by_cases he : s.size = 0
  · have hb := spell_empty bigB letB s he
    have hlt : (s.size : Int) < 1 := by omega
    have HB : Hid (spell bigB letB s.data.toList = false) := hb
    clear he hb
    go_enter Tryz.func67, Tryz.ntmps67
    go_wp2_with fail
    go_ret
    exact ⟨ret_bool HB.out.symm, rfl⟩
  have hpos : 0 < s.size := by omega
  have hnl : ¬ (s.size : Int) < 1 := by omega
  by_cases hl : 32 < s.size
  · have hb := spell_long bigB letB s hl
    have HB : Hid (spell bigB letB s.data.toList = false) := hb
    have hgt : (32 : Int) < (s.size : Int) := by omega
    clear he hb
    go_enter Tryz.func67, Tryz.ntmps67
    go_wp2_with fail
    go_ret
    exact ⟨ret_bool HB.out.symm, rfl⟩
  have hle : ¬ (32 : Int) < (s.size : Int) := by omega
  clear he
  cases hc : bigB (s[0].toNat : Int) with
  | false =>
    have HB : Hid (spell bigB letB s.data.toList = false) := spell_first bigB letB s hpos hc
    go_enter Tryz.func67, Tryz.ntmps67
    go_wp2_with (go_at_call 68; refine (big_any _ _).mono ?_; rintro e w' ⟨rfl, rfl⟩)
    go_ret
    exact ⟨ret_bool HB.out.symm, rfl⟩
  | true =>
    have HT : Hid ((∀ k, 1 ≤ k → (hk : k < s.size) → letB (s[k].toNat : Int) = true) → spell bigB letB s.data.toList = true) := spell_true bigB letB s hpos (by omega) hc
    have HA : Hid (∀ k, 1 ≤ k → (hk : k < s.size) → letB (s[k].toNat : Int) = false → spell bigB letB s.data.toList = false) := fun k h1 hk => spell_at bigB letB s k h1 hk
    go_enter Tryz.func67, Tryz.ntmps67
    go_wp2_with (go_at_call 68; refine (big_any _ _).mono ?_; rintro e w' ⟨rfl, rfl⟩)
    go_loop [7] (fun i => ∃ k : Nat, 1 ≤ k ∧ k ≤ s.size ∧ i = .int .i64 k ∧ (∀ j, 1 ≤ j → j < k → (hj : j < s.size) → letB (s[j].toNat : Int) = true)) (fun i => s.size - (intOf i).toNat)
    case atStart => exact ⟨1, by omega, by omega, rfl, fun j h1 h2 => by omega⟩
    case round =>
      obtain ⟨k, hk1, hk, rfl, hall⟩ := hrel
      have HL : Hid (∀ j, 1 ≤ j → j < k → (hj : j < s.size) → letB (s[j].toNat : Int) = true) := hall
      clear hall
      by_cases hlt : k < s.size
      · cases hd : letB (s[k].toNat : Int) with
        | false =>
          go_wp2_with (go_at_call 69; refine (letter_any _ _).mono ?_; rintro e w' ⟨rfl, rfl⟩)
          go_ret
          exact ⟨ret_bool (HA.out k hk1 hlt hd).symm, rfl⟩
        | true =>
          go_wp2_with (go_at_call 69; refine (letter_any _ _).mono ?_; rintro e w' ⟨rfl, rfl⟩)
          go_round
          case rel =>
            refine ⟨k + 1, by omega, by omega, by go_num, fun j h1 h2 hj => ?_⟩
            by_cases hjk : j = k
            · subst hjk; exact hd
            · exact HL.out j h1 (by omega) hj
          case measure => simp [intOf]; omega
      · go_wp2_with fail
        go_ret
        exact ⟨ret_bool (HT.out fun j h1 hj => HL.out j h1 (by omega) hj).symm, rfl⟩

set_option maxHeartbeats 1000000 in
theorem type_any (s : ByteArray) (w : World) (hs : s.size ≤ maxLen) :
    Calls Tryz.prog 51 #[.string s] w fun e w' => e = .returned (.bool (typeB s.data.toList)) ∧ w' = w := by
  go_enter Tryz.func51, Tryz.ntmps51
  go_wp2_with (go_at_call 67; refine (spelled_type _ _ hs).mono ?_; rintro e w' ⟨rfl, rfl⟩)
  go_ret
  exact ⟨rfl, rfl⟩

set_option maxHeartbeats 1000000 in
theorem spelled_iden (s : ByteArray) (w : World) (hs : s.size ≤ maxLen) :
    Calls Tryz.prog 67 #[.string s, .func (.func 70) #[] #[], .func (.func 70) #[] #[]] w fun e w' => e = .returned (.bool (idenB s.data.toList)) ∧ w' = w := by
  unfold maxLen at hs
  by_cases he : s.size = 0
  · have hb := spell_empty idB idB s he
    have hlt : (s.size : Int) < 1 := by omega
    have HB : Hid (spell idB idB s.data.toList = false) := hb
    clear he hb
    go_enter Tryz.func67, Tryz.ntmps67
    go_wp2_with fail
    go_ret
    exact ⟨ret_bool HB.out.symm, rfl⟩
  have hpos : 0 < s.size := by omega
  have hnl : ¬ (s.size : Int) < 1 := by omega
  by_cases hl : 32 < s.size
  · have hb := spell_long idB idB s hl
    have HB : Hid (spell idB idB s.data.toList = false) := hb
    have hgt : (32 : Int) < (s.size : Int) := by omega
    clear he hb
    go_enter Tryz.func67, Tryz.ntmps67
    go_wp2_with fail
    go_ret
    exact ⟨ret_bool HB.out.symm, rfl⟩
  have hle : ¬ (32 : Int) < (s.size : Int) := by omega
  clear he
  cases hc : idB (s[0].toNat : Int) with
  | false =>
    have HB : Hid (spell idB idB s.data.toList = false) := spell_first idB idB s hpos hc
    go_enter Tryz.func67, Tryz.ntmps67
    go_wp2_with (go_at_call 70; refine (id_any _ _).mono ?_; rintro e w' ⟨rfl, rfl⟩)
    go_ret
    exact ⟨ret_bool HB.out.symm, rfl⟩
  | true =>
    have HT : Hid ((∀ k, 1 ≤ k → (hk : k < s.size) → idB (s[k].toNat : Int) = true) → spell idB idB s.data.toList = true) := spell_true idB idB s hpos (by omega) hc
    have HA : Hid (∀ k, 1 ≤ k → (hk : k < s.size) → idB (s[k].toNat : Int) = false → spell idB idB s.data.toList = false) := fun k h1 hk => spell_at idB idB s k h1 hk
    go_enter Tryz.func67, Tryz.ntmps67
    go_wp2_with (go_at_call 70; refine (id_any _ _).mono ?_; rintro e w' ⟨rfl, rfl⟩)
    go_loop [7] (fun i => ∃ k : Nat, 1 ≤ k ∧ k ≤ s.size ∧ i = .int .i64 k ∧ (∀ j, 1 ≤ j → j < k → (hj : j < s.size) → idB (s[j].toNat : Int) = true)) (fun i => s.size - (intOf i).toNat)
    case atStart => exact ⟨1, by omega, by omega, rfl, fun j h1 h2 => by omega⟩
    case round =>
      obtain ⟨k, hk1, hk, rfl, hall⟩ := hrel
      have HL : Hid (∀ j, 1 ≤ j → j < k → (hj : j < s.size) → idB (s[j].toNat : Int) = true) := hall
      clear hall
      by_cases hlt : k < s.size
      · cases hd : idB (s[k].toNat : Int) with
        | false =>
          go_wp2_with (go_at_call 70; refine (id_any _ _).mono ?_; rintro e w' ⟨rfl, rfl⟩)
          go_ret
          exact ⟨ret_bool (HA.out k hk1 hlt hd).symm, rfl⟩
        | true =>
          go_wp2_with (go_at_call 70; refine (id_any _ _).mono ?_; rintro e w' ⟨rfl, rfl⟩)
          go_round
          case rel =>
            refine ⟨k + 1, by omega, by omega, by go_num, fun j h1 h2 hj => ?_⟩
            by_cases hjk : j = k
            · subst hjk; exact hd
            · exact HL.out j h1 (by omega) hj
          case measure => simp [intOf]; omega
      · go_wp2_with fail
        go_ret
        exact ⟨ret_bool (HT.out fun j h1 hj => HL.out j h1 (by omega) hj).symm, rfl⟩

set_option maxHeartbeats 1000000 in
theorem iden_any (s : ByteArray) (w : World) (hs : s.size ≤ maxLen) :
    Calls Tryz.prog 52 #[.string s] w fun e w' => e = .returned (.bool (idenB s.data.toList)) ∧ w' = w := by
  go_enter Tryz.func52, Tryz.ntmps52
  go_wp2_with (go_at_call 67; refine (spelled_iden _ _ hs).mono ?_; rintro e w' ⟨rfl, rfl⟩)
  go_ret
  exact ⟨rfl, rfl⟩

set_option maxHeartbeats 1000000 in
theorem spelled_temp (s : ByteArray) (w : World) (hs : s.size ≤ maxLen) :
    Calls Tryz.prog 67 #[.string s, .func (.func 95) #[] #[], .func (.func 95) #[] #[]] w fun e w' => e = .returned (.bool (tempB s.data.toList)) ∧ w' = w := by
  unfold maxLen at hs
  by_cases he : s.size = 0
  · have hb := spell_empty lodB lodB s he
    have hlt : (s.size : Int) < 1 := by omega
    have HB : Hid (spell lodB lodB s.data.toList = false) := hb
    clear he hb
    go_enter Tryz.func67, Tryz.ntmps67
    go_wp2_with fail
    go_ret
    exact ⟨ret_bool HB.out.symm, rfl⟩
  have hpos : 0 < s.size := by omega
  have hnl : ¬ (s.size : Int) < 1 := by omega
  by_cases hl : 32 < s.size
  · have hb := spell_long lodB lodB s hl
    have HB : Hid (spell lodB lodB s.data.toList = false) := hb
    have hgt : (32 : Int) < (s.size : Int) := by omega
    clear he hb
    go_enter Tryz.func67, Tryz.ntmps67
    go_wp2_with fail
    go_ret
    exact ⟨ret_bool HB.out.symm, rfl⟩
  have hle : ¬ (32 : Int) < (s.size : Int) := by omega
  clear he
  cases hc : lodB (s[0].toNat : Int) with
  | false =>
    have HB : Hid (spell lodB lodB s.data.toList = false) := spell_first lodB lodB s hpos hc
    go_enter Tryz.func67, Tryz.ntmps67
    go_wp2_with (go_at_call 95; refine (lod_any _ _).mono ?_; rintro e w' ⟨rfl, rfl⟩)
    go_ret
    exact ⟨ret_bool HB.out.symm, rfl⟩
  | true =>
    have HT : Hid ((∀ k, 1 ≤ k → (hk : k < s.size) → lodB (s[k].toNat : Int) = true) → spell lodB lodB s.data.toList = true) := spell_true lodB lodB s hpos (by omega) hc
    have HA : Hid (∀ k, 1 ≤ k → (hk : k < s.size) → lodB (s[k].toNat : Int) = false → spell lodB lodB s.data.toList = false) := fun k h1 hk => spell_at lodB lodB s k h1 hk
    go_enter Tryz.func67, Tryz.ntmps67
    go_wp2_with (go_at_call 95; refine (lod_any _ _).mono ?_; rintro e w' ⟨rfl, rfl⟩)
    go_loop [7] (fun i => ∃ k : Nat, 1 ≤ k ∧ k ≤ s.size ∧ i = .int .i64 k ∧ (∀ j, 1 ≤ j → j < k → (hj : j < s.size) → lodB (s[j].toNat : Int) = true)) (fun i => s.size - (intOf i).toNat)
    case atStart => exact ⟨1, by omega, by omega, rfl, fun j h1 h2 => by omega⟩
    case round =>
      obtain ⟨k, hk1, hk, rfl, hall⟩ := hrel
      have HL : Hid (∀ j, 1 ≤ j → j < k → (hj : j < s.size) → lodB (s[j].toNat : Int) = true) := hall
      clear hall
      by_cases hlt : k < s.size
      · cases hd : lodB (s[k].toNat : Int) with
        | false =>
          go_wp2_with (go_at_call 95; refine (lod_any _ _).mono ?_; rintro e w' ⟨rfl, rfl⟩)
          go_ret
          exact ⟨ret_bool (HA.out k hk1 hlt hd).symm, rfl⟩
        | true =>
          go_wp2_with (go_at_call 95; refine (lod_any _ _).mono ?_; rintro e w' ⟨rfl, rfl⟩)
          go_round
          case rel =>
            refine ⟨k + 1, by omega, by omega, by go_num, fun j h1 h2 hj => ?_⟩
            by_cases hjk : j = k
            · subst hjk; exact hd
            · exact HL.out j h1 (by omega) hj
          case measure => simp [intOf]; omega
      · go_wp2_with fail
        go_ret
        exact ⟨ret_bool (HT.out fun j h1 hj => HL.out j h1 (by omega) hj).symm, rfl⟩

end Go.Proofs.YtjehjjpdicimhaaGreat


/-
  Where a byte first stands in a text, in plain lists.
-/
namespace Go.Proofs.YtjehjjpdicimhaaGreat

theorem ix_cases (l : List UInt8) (c : UInt8) :
    (Lib.indexByte l c = -1 ∧ c ∉ l) ∨ ∃ i : Nat, Lib.indexByte l c = (i : Int) ∧ i < l.length ∧ l[i]? = some c ∧ c ∉ l.take i := by
  induction l with
  | nil => left; exact ⟨rfl, by simp⟩
  | cons b l ih =>
    by_cases hb : b = c
    · right
      refine ⟨0, ?_, by simp, by simp [hb], by simp⟩
      unfold Lib.indexByte; simp [hb]
    · have hbc : (b == c) = false := by simp [hb]
      rcases ih with ⟨h1, h2⟩ | ⟨i, h1, h2, h3, h4⟩
      · left
        refine ⟨?_, ?_⟩
        · unfold Lib.indexByte; rw [hbc]; simp [h1]
        · simp only [List.mem_cons, not_or]; exact ⟨fun h => hb h.symm, h2⟩
      · right
        refine ⟨i + 1, ?_, by simp; omega, by simpa using h3, ?_⟩
        · unfold Lib.indexByte; rw [hbc, h1]
          have : ((i : Int) == -1) = false := by rw [beq_eq_false_iff_ne]; omega
          simp [this]
        · simp only [List.take_succ_cons, List.mem_cons, not_or]; exact ⟨fun h => hb h.symm, h4⟩

/-- The split of a text at its first byte c. -/
theorem ix_split (l : List UInt8) (c : UInt8) (i : Nat) (h1 : i < l.length) (h2 : l[i]? = some c) : l = l.take i ++ c :: l.drop (i + 1) := by
  have h3 : l[i] = c := by rw [List.getElem?_eq_getElem h1] at h2; exact Option.some.inj h2
  calc l = l.take i ++ l.drop i := (List.take_append_drop i l).symm
    _ = l.take i ++ c :: l.drop (i + 1) := by rw [List.drop_eq_getElem_cons h1, h3]

theorem ix_uniq {a b a' b' : List UInt8} {c : UInt8} (h : a ++ c :: b = a' ++ c :: b') (ha : c ∉ a) (ha' : c ∉ a') : a = a' ∧ b = b' := by
  induction a generalizing a' with
  | nil =>
    cases a' with
    | nil => simp at h; exact ⟨rfl, h⟩
    | cons x a' => simp at h; simp [h.1] at ha'
  | cons x a ih =>
    cases a' with
    | nil => simp at h; simp [h.1] at ha
    | cons y a' =>
      simp only [List.cons_append, List.cons.injEq] at h
      simp only [List.mem_cons, not_or] at ha ha'
      obtain ⟨e1, e2⟩ := ih h.2 ha.2 ha'.2
      exact ⟨by rw [h.1, e1], e2⟩

theorem ext_head (s : ByteArray) (i : Nat) : (s.extract 0 i).data.toList = s.data.toList.take i := by
  rw [Lib.extract_data]; simp

theorem ext_tail (s : ByteArray) (i : Nat) : (s.extract i s.size).data.toList = s.data.toList.drop i := Lib.extract_to_end s i

end Go.Proofs.YtjehjjpdicimhaaGreat

/-
  The contract of strings.Cut at a separator of one byte.
-/
namespace Go.Proofs.YtjehjjpdicimhaaGreat
open Go.RowKit



set_option maxHeartbeats 400000 in
theorem cutl_no (s : ByteArray) (c : UInt8) (w : World) (hix : Lib.indexByte s.data.toList c = -1) :
    Calls Tryz.prog 119 #[.string s, .string ⟨#[c]⟩] w fun e w' => e = .returned (.tuple #[.string s, .string ⟨#[]⟩, .bool false]) ∧ w' = w := by
  have HX : Hid (Lib.indexByte s.data.toList c = -1) := hix
  clear hix
  go_enter Tryz.func119, Tryz.ntmps119
  go_wp2_with (go_at_call 120; refine (Tryz.stringslite_Index_one _ _ _).mono ?_; rintro e w' ⟨rfl, rfl⟩; rw [HX.out])
  go_ret3
  exact ⟨rfl, rfl⟩

set_option maxHeartbeats 400000 in
theorem cutl_yes (s : ByteArray) (c : UInt8) (w : World) (i : Nat) (hix : Lib.indexByte s.data.toList c = (i : Int)) (hi : i < s.size) (hs : s.size ≤ maxLen) :
    Calls Tryz.prog 119 #[.string s, .string ⟨#[c]⟩] w fun e w' => e = .returned (.tuple #[.string (s.extract 0 i), .string (s.extract (i + 1) s.size), .bool true]) ∧ ∃ n, w' = w.drewN n := by
  have HX : Hid (Lib.indexByte s.data.toList c = (i : Int)) := hix
  clear hix
  unfold maxLen at hs
  have c1 : (0 : Int) ≤ ↑i := by omega
  have c2 : (↑i : Int) ≤ ↑s.size := by omega
  have c3 : (0 : Int) ≤ ↑i + 1 := by omega
  have c4 : (↑i + 1 : Int) ≤ ↑s.size := by omega
  go_enter Tryz.func119, Tryz.ntmps119
  go_wp2_with (go_at_call 120; refine (Tryz.stringslite_Index_one _ _ _).mono ?_; rintro e w' ⟨rfl, rfl⟩; rw [HX.out])
  go_quiet (fail)
  go_wp2_with fail
  go_ret3
  exact ⟨rfl, _, rfl⟩

set_option maxHeartbeats 400000 in
theorem cut_no (s : ByteArray) (c : UInt8) (w : World) (hix : Lib.indexByte s.data.toList c = -1) :
    Calls Tryz.prog 117 #[.string s, .string ⟨#[c]⟩] w fun e w' => e = .returned (.tuple #[.string s, .string ⟨#[]⟩, .bool false]) ∧ w' = w := by
  have HX : Hid (Lib.indexByte s.data.toList c = -1) := hix
  clear hix
  go_enter Tryz.func117, Tryz.ntmps117
  go_wp2_with (go_at_call 119; refine (cutl_no _ _ _ HX.out).mono ?_; rintro e w' ⟨rfl, rfl⟩)
  go_ret3
  exact ⟨rfl, rfl⟩

set_option maxHeartbeats 400000 in
theorem cut_yes (s : ByteArray) (c : UInt8) (w : World) (i : Nat) (hix : Lib.indexByte s.data.toList c = (i : Int)) (hi : i < s.size) (hs : s.size ≤ maxLen) :
    Calls Tryz.prog 117 #[.string s, .string ⟨#[c]⟩] w fun e w' => e = .returned (.tuple #[.string (s.extract 0 i), .string (s.extract (i + 1) s.size), .bool true]) ∧ ∃ n, w' = w.drewN n := by
  have HX : Hid (Lib.indexByte s.data.toList c = (i : Int)) := hix
  clear hix
  go_enter Tryz.func117, Tryz.ntmps117
  go_wp2_with (go_at_call 119; refine (cutl_yes _ _ _ i HX.out hi hs).mono ?_; rintro e w' ⟨rfl, n, rfl⟩)
  go_ret3
  exact ⟨rfl, n, rfl⟩

end Go.Proofs.YtjehjjpdicimhaaGreat

/-
  The contracts of Key, Print and Parse of package name.
-/
namespace Go.Proofs.YtjehjjpdicimhaaGreat
open Go.RowKit

def keyB (a b : ByteArray) : Bool := typeB a.data.toList && idenB b.data.toList

theorem bcell {W w1 : World} (hb : Below W.heap.size W w1) : (∀ b o, b < W.heap.size → w1.cell? ⟨b, o, none⟩ = W.cell? ⟨b, o, none⟩) ∧ (∀ b o, b < W.heap.size → w1.frozen? ⟨b, o, none⟩ = W.frozen? ⟨b, o, none⟩) :=
  ⟨fun b o h => hb.cell (p := ⟨b, o, none⟩) h, fun b o h => hb.frozen (p := ⟨b, o, none⟩) h⟩

set_option maxHeartbeats 400000 in
theorem key_any (a b : ByteArray) (w : World) (ha : a.size ≤ maxLen) (hb : b.size ≤ maxLen) :
    Calls Tryz.prog 31 #[.agg #[.string a, .string b]] w fun e w' => e = .returned (.bool (keyB a b)) ∧ Below w.heap.size w w' := by
  have HK : Hid (keyB a b = (typeB a.data.toList && idenB b.data.toList)) := rfl
  cases ht : typeB a.data.toList
  all_goals
    go_enter Tryz.func31, Tryz.ntmps31
    go_wp2_with (first | (go_at_call 51; refine (type_any _ _ ha).mono ?_; rintro e w' ⟨rfl, rfl⟩) | (go_at_call 52; refine (iden_any _ _ hb).mono ?_; rintro e w' ⟨rfl, rfl⟩))
    go_ret
    exact ⟨ret_bool (by rw [HK.out, ht]; rfl), (Below.refl _ _).alloc (Nat.le_refl _) _⟩

theorem typeB_len {l : List UInt8} (h : typeB l = true) : l.length ≤ 32 := by
  cases l with
  | nil => simp
  | cons c r => simp [typeB, spell] at h; simp; omega
theorem idenB_len {l : List UInt8} (h : idenB l = true) : l.length ≤ 32 := by
  cases l with
  | nil => simp
  | cons c r => simp [idenB, spell] at h; simp; omega
theorem idenB_empty : idenB [] = false := rfl

theorem keyB_empty (a : ByteArray) : keyB a ⟨#[]⟩ = false := by
  unfold keyB
  rw [show (⟨#[]⟩ : ByteArray).data.toList = [] from rfl, idenB_empty, Bool.and_false]

theorem ext_size (s : ByteArray) (i j : Nat) (h : s.size ≤ maxLen) : (s.extract i j).size ≤ maxLen := by
  have : (s.extract i j).size ≤ s.size := by simp; omega
  omega

end Go.Proofs.YtjehjjpdicimhaaGreat

/-
  The contract of fits.
-/
namespace Go.Proofs.YtjehjjpdicimhaaGreat
open Go.RowKit

theorem enters_tooLong : ∀ args w, (callFunc 74 args).run Tryz.prog w = .ok (.enter 74 args) w := enters_of Tryz.func74 (by kernel_rfl) rfl

theorem hasLong_any (p : Option Addr) (cap : Nat) (ts : List ByteArray) (w : World) (h : TxtAt w p ts) (hs : ts.length ≤ maxLen) :
    Calls Tryz.prog 73 #[.slice p ts.length cap, .func (.func 74) #[] #[]] w fun e w' => e = .returned (.bool (ts.any longB)) ∧ ∃ q, w' = w.drewN q := by
  unfold maxLen at hs
  rcases h with rfl | ⟨b, off, rfl, hc⟩
  · refine (Tryz.slices_ContainsFunc_empty (α := ByteArray) p cap _ w).mono ?_
    rintro e w' ⟨rfl, rfl⟩
    exact ⟨rfl, 0, rfl⟩
  · refine (Tryz.slices_ContainsFunc (fun t : ByteArray => Value.string t) longB 74 #[] enters_tooLong b off ts.length cap ts w (fun W x hb => (tooLong_any x W).mono ?_) (Nat.le_refl _) (by omega) ?_).mono ?_
    · rintro e w' ⟨rfl, rfl⟩
      exact ⟨rfl, 0, rfl⟩
    · intro j hj
      rw [getElem!_pos ts j hj]
      exact hc j hj
    · rintro e w' ⟨rfl, hq⟩
      rw [List.take_length]
      exact ⟨rfl, hq⟩

set_option maxHeartbeats 1000000 in
theorem fits_any (x : Fx) (w : World) (hx : x.at w) (hf : FitF x.fld) : Calls Tryz.prog 53 #[x.val] w fun e w' => e = .returned (.bool (fitsB x.fld)) ∧ Grown w w' := by
  obtain ⟨hs, hl, _⟩ := hf
  have HM := hid (misnamed_any x)
  have HBA := hid (bare_any x)
  obtain ⟨nm, p, cap, ts⟩ := x
  simp only [Fx.val, encX, Fx.sl, Fx.fld, Fx.at] at hs hl hx HM HBA ⊢
  have hb1 : Grown w (w.alloc (.cells #[.string nm, .slice p ts.length cap] 63)) := (Grown.refl _).alloc _
  have HX := hid (hx.kept hb1.below)
  have HS := hid hs
  have HL := hid hl
  clear hx hs hl
  obtain ⟨r, hr⟩ : ∃ r, fitsB (nm, ts) = r := ⟨_, rfl⟩
  rw [hr]
  have HR := hid hr
  clear hr
  have A0 : ∀ w1, Below (w.alloc (.cells #[.string nm, .slice p ts.length cap] 63)).heap.size (w.alloc (.cells #[.string nm, .slice p ts.length cap] 63)) w1 → w1.cell? ⟨w.heap.size, 0, none⟩ = some (.string nm) ∧ w1.cell? ⟨w.heap.size, 1, none⟩ = some (.slice p ts.length cap) := fun w1 hb => by
    refine ⟨(hb.cell (p := ⟨w.heap.size, 0, none⟩) (by simp)).trans (by simp [go_sem]), (hb.cell (p := ⟨w.heap.size, 1, none⟩) (by simp)).trans (by simp [go_sem])⟩
  have A1 := hid A0
  clear A0
  cases h1 : fieldB nm.data.toList with
  | false =>
    have H0 : Hid (r = false) := by show r = false; rw [← HR.out]; simp [fitsB, h1]
    go_enter Tryz.func53, Tryz.ntmps53
    go_wp2_with (first | (go_at_call 71; refine (HM.out _ HS.out).mono ?_; rintro e w1 ⟨rfl, hb2⟩; simp only [h1]))
    go_ret
    exact ⟨ret_bool H0.out.symm, hb1.trans hb2⟩
  | true =>
    cases h2 : ts.isEmpty with
    | true =>
      have H0 : Hid (r = false) := by show r = false; rw [← HR.out]; simp [fitsB, h2]
      go_enter Tryz.func53, Tryz.ntmps53
      go_wp2_with (first | (go_at_call 71; refine (HM.out _ HS.out).mono ?_; rintro e w1 ⟨rfl, hb2⟩; obtain ⟨a0, a1⟩ := A1.out _ hb2.below; simp only [h1]) | (go_at_call 72; refine (HBA.out _).mono ?_; rintro e w2 ⟨rfl, hb3⟩; simp only [h2]))
      go_ret
      exact ⟨ret_bool H0.out.symm, (hb1.trans hb2).trans hb3⟩
    | false =>
      by_cases h8 : ts.length ≤ 8
      · have h8z : ¬ (8 : Int) < (ts.length : Int) := by omega
        have H0 : Hid (r = !ts.any longB) := by show r = _; rw [← HR.out]; unfold fitsB; rw [h1, h2, decide_eq_true h8]; rfl
        go_enter Tryz.func53, Tryz.ntmps53
        go_wp2_with (first | (go_at_call 71; refine (HM.out _ HS.out).mono ?_; rintro e w1 ⟨rfl, hb2⟩; obtain ⟨a0, a1⟩ := A1.out _ hb2.below; simp only [h1]) | (go_at_call 72; refine (HBA.out _).mono ?_; rintro e w2 ⟨rfl, hb3⟩; obtain ⟨b0, b1⟩ := A1.out _ (hb2.trans hb3).below; simp only [h2]) | (go_at_call 73; refine (hasLong_any _ _ _ _ (HX.out.kept (hb2.trans hb3).below) HL.out).mono ?_; rintro e w3 ⟨rfl, q, rfl⟩))
        go_ret
        exact ⟨ret_bool H0.out.symm, ((hb1.trans hb2).trans hb3).drewN _⟩
      · have h8z : (8 : Int) < (ts.length : Int) := by omega
        have H0 : Hid (r = false) := by show r = _; rw [← HR.out]; unfold fitsB; rw [decide_eq_false h8]; simp
        go_enter Tryz.func53, Tryz.ntmps53
        go_wp2_with (first | (go_at_call 71; refine (HM.out _ HS.out).mono ?_; rintro e w1 ⟨rfl, hb2⟩; obtain ⟨a0, a1⟩ := A1.out _ hb2.below; simp only [h1]) | (go_at_call 72; refine (HBA.out _).mono ?_; rintro e w2 ⟨rfl, hb3⟩; obtain ⟨b0, b1⟩ := A1.out _ (hb2.trans hb3).below; simp only [h2]))
        go_ret
        exact ⟨ret_bool H0.out.symm, (hb1.trans hb2).trans hb3⟩

end Go.Proofs.YtjehjjpdicimhaaGreat

/-
  The contract of May.
-/
namespace Go.Proofs.YtjehjjpdicimhaaGreat
open Go.RowKit

def ltN (a b : ByteArray) : Bool := Op.bytesLess a.toList b.toList
def stepOk (fs : List Fld) (i : Nat) : Bool := fitsB (fs.getD i default) && (decide (i = 0) || ltN (fs.getD (i - 1) default).1 (fs.getD i default).1)
def mayB (fs : List Fld) : Bool := decide (fs.length ≤ 16) && (List.range fs.length).all (stepOk fs)

theorem flds_at {d : List Fx} {i : Nat} (h : i < d.length) : (d.map Fx.fld).getD i default = d[i].fld := by
  rw [List.getD_eq_getElem?_getD, List.getElem?_map, List.getElem?_eq_getElem h]; rfl

theorem may_long {fs : List Fld} (h : 16 < fs.length) : mayB fs = false := by
  unfold mayB; rw [decide_eq_false (by omega)]; rfl
theorem may_no {fs : List Fld} {i : Nat} (h : i < fs.length) (hs : stepOk fs i = false) : mayB fs = false := by
  unfold mayB
  have : (List.range fs.length).all (stepOk fs) = false := by
    rw [Bool.eq_false_iff]
    intro ha
    rw [List.all_eq_true] at ha
    have := ha i (List.mem_range.2 h)
    rw [hs] at this; cases this
  rw [this]; simp
theorem may_yes {fs : List Fld} (h : fs.length ≤ 16) (hs : ∀ i, i < fs.length → stepOk fs i = true) : mayB fs = true := by
  unfold mayB
  have : (List.range fs.length).all (stepOk fs) = true := by
    rw [List.all_eq_true]
    exact fun i hi => hs i (List.mem_range.1 hi)
  rw [this, decide_eq_true h]; rfl

theorem x_new (w : World) (x : Fx) (w' : World) (hb : Below (w.alloc (.cells #[.string x.name, .slice x.p x.txt.length x.cap] 63)).heap.size (w.alloc (.cells #[.string x.name, .slice x.p x.txt.length x.cap] 63)) w') :
    w'.cell? ⟨w.heap.size, 0, none⟩ = some (.string x.name) ∧ w'.cell? ⟨w.heap.size, 1, none⟩ = some (.slice x.p x.txt.length x.cap) :=
  ⟨(hb.cell (p := ⟨w.heap.size, 0, none⟩) (by simp)).trans (by simp [go_sem]), (hb.cell (p := ⟨w.heap.size, 1, none⟩) (by simp)).trans (by simp [go_sem])⟩

set_option maxHeartbeats 4000000 in
set_option maxRecDepth 100000 in
theorem may_any (v : Value) (d : List Fx) (w : World) (hv : IsXs w v d) (hf : FitX d) : Calls Tryz.prog 32 #[v] w fun e w' => e = .returned (.bool (mayB (d.map Fx.fld))) ∧ Grown w w' := by
  obtain ⟨p, cap, rfl, hd, ht⟩ := hv
  have HT := hid ht
  have HF := hid hf.2
  have hl := hf.1
  unfold maxLen at hl
  have HD := hid hd
  clear ht hf hd
  obtain ⟨r, hr⟩ : ∃ r, mayB (d.map Fx.fld) = r := ⟨_, rfl⟩
  rw [hr]
  have HR := hid hr
  clear hr
  by_cases h16 : 16 < d.length
  · have h16z : (16 : Int) < d.length := by omega
    have H0 : Hid (r = false) := HR.out.symm.trans (may_long (by rw [List.length_map]; exact h16))
    go_enter Tryz.func32, Tryz.ntmps32
    go_wp2_with fail
    go_ret
    exact ⟨ret_bool H0.out.symm, Grown.refl _⟩
  have h16z : ¬ (16 : Int) < d.length := by omega
  go_enter Tryz.func32, Tryz.ntmps32
  go_wp2_with fail
  go_loopg [10] d.length (fun g vi wr => ∃ i : Nat, vi = .int .i64 i ∧ i ≤ d.length ∧ d.length - i ≤ g ∧ Grown w wr ∧ Hid (∀ j, j < i → stepOk (d.map Fx.fld) j = true))
  case atStart => exact ⟨0, rfl, by omega, by omega, Grown.refl _, fun j h => by omega⟩
  case round =>
    obtain ⟨i, rfl, hi, hg, hb, HJ⟩ := hrel
    by_cases hlt : i < d.length
    · have hltz : (i : Int) < (d.length : Int) := by omega
      have hiz : (0 : Int) ≤ i := by omega
      obtain ⟨b, off, rfl, hxs⟩ : ∃ b off, p = some ⟨b, off, none⟩ ∧ XsAt w b off d := by
        rcases HD.out with h | h
        · subst h; simp at hlt
        · exact h
      have hxr := hxs.kept hb.below
      obtain ⟨c0, c1⟩ := hxr i hlt
      have hxi : (d[i]).at wr := (HT.out _ (List.getElem_mem hlt)).kept hb.below
      have hfi := HF.out _ (List.getElem_mem hlt)
      have hsx := flds_at hlt
      obtain ⟨x, hx⟩ : ∃ x, d[i] = x := ⟨_, rfl⟩
      rw [hx] at c0 c1 hxi hfi hsx
      have HXR := hid hxr
      have HXI := hid hxi
      have HFI := hid hfi
      have HSX := hid hsx
      clear hxr hxs hxi hfi hx hsx
      unfold Fx.sl at c1
      have FFX : Hid (∀ W, x.at W → Calls Tryz.prog 53 #[.agg #[.string x.name, .slice x.p x.txt.length x.cap]] W fun e w' => e = .returned (.bool (fitsB x.fld)) ∧ ∃ q os', w' = Sort.grow (W.drewN q) os') := fun W h => fits_any x W h HFI.out
      have mixed := Tryz.mixed
      by_cases h0 : i = 0
      · have h0z : ¬ (0 : Int) < (i : Int) := by omega
        have H00 := hid h0
        clear h0
        go_wp2_with fail
        obtain ⟨W1, hW1⟩ : ∃ W1, wr.alloc (.cells #[.string x.name, .slice x.p x.txt.length x.cap] 63) = W1 := ⟨_, rfl⟩
        have full : ∀ n os, (Sort.grow (W1.drewN n) os).cell? ⟨wr.heap.size, 0, none⟩ = some (.string x.name) ∧ (Sort.grow (W1.drewN n) os).cell? ⟨wr.heap.size, 1, none⟩ = some (.slice x.p x.txt.length x.cap) ∧ x.at (Sort.grow (W1.drewN n) os) := fun n os => by
          subst hW1
          have hgr := (Grown.refl (wr.alloc (.cells #[.string x.name, .slice x.p x.txt.length x.cap] 63))).on (q := n) (os := os)
          obtain ⟨f0, f1⟩ := x_new wr x _ hgr.below
          have hbw := (((Grown.refl wr).alloc (.cells #[.string x.name, .slice x.p x.txt.length x.cap] 63)).trans hgr).below
          exact ⟨f0, f1, HXI.out.kept hbw⟩
        have q0 : ∀ n os, (Sort.grow (W1.drewN n) os).cell? ⟨wr.heap.size, 0, none⟩ = some (.string x.name) := fun n os => (full n os).1
        have q1 : ∀ n os, (Sort.grow (W1.drewN n) os).cell? ⟨wr.heap.size, 1, none⟩ = some (.slice x.p x.txt.length x.cap) := fun n os => (full n os).2.1
        have Q3 : Hid (∀ n os, x.at (Sort.grow (W1.drewN n) os)) := fun n os => (full n os).2.2
        have hbW : Grown w W1 := by subst hW1; exact hb.alloc _
        rw [hW1]
        clear full hW1 c0 c1
        cases hfx : fitsB x.fld with
        | false =>
          rw [hfx] at FFX
          have H0 : Hid (r = false) := HR.out.symm.trans (may_no (i := i) (by rw [List.length_map]; exact hlt) (by unfold stepOk; rw [HSX.out, hfx]; rfl))
          refine wp_region_quiet_grown mixed (by kernel_rfl) ?_
          repeat (go_big_quiet_step (first | (go_at_call 53; refine Calls.grown_of (FFX.out _ (Q3.out _ _)))))
          refine wpQuiet_nil ?_
          intro _ hw'
          obtain ⟨⟨nq, osq⟩, hw''⟩ := hw'
          subst hw''
          go_wp2_with fail
          go_ret
          exact ⟨ret_bool H0.out.symm, hbW.on⟩
        | true =>
          rw [hfx] at FFX
          have cb : decide (0 < i) = false := decide_eq_false (by have := H00.out; omega)
          have H0 : Hid (stepOk (d.map Fx.fld) i = true) := by show _ = _; unfold stepOk; rw [HSX.out, hfx, decide_eq_true H00.out]; rfl
          refine wp_region_quiet_grown mixed (by kernel_rfl) ?_
          repeat (go_big_quiet_step (first | (go_at_call 53; refine Calls.grown_of (FFX.out _ (Q3.out _ _)))))
          refine wpQuiet_nil ?_
          intro _ hw'
          obtain ⟨⟨nq, osq⟩, hw''⟩ := hw'
          subst hw''
          go_wp2_with fail
          go_roundg (d.length - (i + 1))
          case measure => omega
          refine ⟨i + 1, by go_num, by omega, by omega, hbW.on, fun j hj => ?_⟩
          obtain rfl : j = i := by have := H00.out; omega
          exact H0.out
      · obtain ⟨k, rfl⟩ : ∃ k, i = k + 1 := ⟨i - 1, by omega⟩
        obtain ⟨e0, e1⟩ := HXR.out k (by omega)
        have hsy := flds_at (d := d) (i := k) (by omega)
        obtain ⟨y, hy⟩ : ∃ y, d[k] = y := ⟨_, rfl⟩
        rw [hy] at e0 hsy
        have HSY := hid hsy
        clear e1 hy hsy
        have k1 : (0 : Int) < (k : Int) + 1 := by omega
        have k2 : (0 : Int) ≤ (k : Int) := by omega
        have k3 : (k : Int) < (d.length : Int) := by omega
        go_wp2_with fail
        obtain ⟨W1, hW1⟩ : ∃ W1, wr.alloc (.cells #[.string x.name, .slice x.p x.txt.length x.cap] 63) = W1 := ⟨_, rfl⟩
        have full : ∀ n os, (Sort.grow (W1.drewN n) os).cell? ⟨wr.heap.size, 0, none⟩ = some (.string x.name) ∧ (Sort.grow (W1.drewN n) os).cell? ⟨wr.heap.size, 1, none⟩ = some (.slice x.p x.txt.length x.cap) ∧ (Sort.grow (W1.drewN n) os).cell? ⟨b, off + k * 2, none⟩ = some (.string y.name) ∧ x.at (Sort.grow (W1.drewN n) os) := fun n os => by
          subst hW1
          have hgr := (Grown.refl (wr.alloc (.cells #[.string x.name, .slice x.p x.txt.length x.cap] 63))).on (q := n) (os := os)
          obtain ⟨f0, f1⟩ := x_new wr x _ hgr.below
          have hbw := (((Grown.refl wr).alloc (.cells #[.string x.name, .slice x.p x.txt.length x.cap] 63)).trans hgr).below
          exact ⟨f0, f1, (hbw.cell (p := ⟨b, off + k * 2, none⟩) (cell_block e0)).trans e0, HXI.out.kept hbw⟩
        have q0 : ∀ n os, (Sort.grow (W1.drewN n) os).cell? ⟨wr.heap.size, 0, none⟩ = some (.string x.name) := fun n os => (full n os).1
        have q1 : ∀ n os, (Sort.grow (W1.drewN n) os).cell? ⟨wr.heap.size, 1, none⟩ = some (.slice x.p x.txt.length x.cap) := fun n os => (full n os).2.1
        have q2 : ∀ n os, (Sort.grow (W1.drewN n) os).cell? ⟨b, off + k * 2, none⟩ = some (.string y.name) := fun n os => (full n os).2.2.1
        have Q3 : Hid (∀ n os, x.at (Sort.grow (W1.drewN n) os)) := fun n os => (full n os).2.2.2
        have hbW : Grown w W1 := by subst hW1; exact hb.alloc _
        rw [hW1]
        clear full hW1 c0 c1 e0
        cases hfx : fitsB x.fld with
        | false =>
          rw [hfx] at FFX
          have H0 : Hid (r = false) := HR.out.symm.trans (may_no (i := k + 1) (by rw [List.length_map]; exact hlt) (by unfold stepOk; rw [HSX.out, hfx]; rfl))
          refine wp_region_quiet_grown mixed (by kernel_rfl) ?_
          repeat (go_big_quiet_step (first | (go_at_call 53; refine Calls.grown_of (FFX.out _ (Q3.out _ _)))))
          refine wpQuiet_nil ?_
          intro _ hw'
          obtain ⟨⟨nq, osq⟩, hw''⟩ := hw'
          subst hw''
          go_wp2_with fail
          go_ret
          exact ⟨ret_bool H0.out.symm, hbW.on⟩
        | true =>
          rw [hfx] at FFX
          have H0 : Hid (stepOk (d.map Fx.fld) (k + 1) = ltN y.name x.name) := by
            show _ = _
            unfold stepOk
            rw [HSX.out, hfx, Nat.add_sub_cancel, HSY.out, decide_eq_false (by omega)]
            rfl
          cases hlt2 : Op.bytesLess y.name.toList x.name.toList with
          | false =>
            have H1 : Hid (r = false) := HR.out.symm.trans (may_no (i := k + 1) (by rw [List.length_map]; exact hlt) (H0.out.trans hlt2))
            refine wp_region_quiet_grown mixed (by kernel_rfl) ?_
            repeat (go_big_quiet_step (first | (go_at_call 53; refine Calls.grown_of (FFX.out _ (Q3.out _ _)))))
            refine wpQuiet_nil ?_
            intro _ hw'
            obtain ⟨⟨nq, osq⟩, hw''⟩ := hw'
            subst hw''
            go_wp2_with fail
            go_ret
            exact ⟨ret_bool H1.out.symm, hbW.on⟩
          | true =>
            have H1 : Hid (stepOk (d.map Fx.fld) (k + 1) = true) := H0.out.trans hlt2
            refine wp_region_quiet_grown mixed (by kernel_rfl) ?_
            repeat (go_big_quiet_step (first | (go_at_call 53; refine Calls.grown_of (FFX.out _ (Q3.out _ _)))))
            refine wpQuiet_nil ?_
            intro _ hw'
            obtain ⟨⟨nq, osq⟩, hw''⟩ := hw'
            subst hw''
            go_wp2_with fail
            go_roundg (d.length - (k + 1 + 1))
            case measure => omega
            refine ⟨k + 1 + 1, by go_num, by omega, by omega, hbW.on, fun j hj => ?_⟩
            by_cases e : j = k + 1
            · subst e; exact H1.out
            · exact HJ.out j (by omega)
    · have hltz : ¬ (i : Int) < (d.length : Int) := by omega
      have H0 : Hid (r = true) := HR.out.symm.trans (may_yes (by rw [List.length_map]; omega) (fun j hj => HJ.out j (by rw [List.length_map] at hj; omega)))
      go_wp2_with fail
      go_ret
      exact ⟨ret_bool H0.out.symm, hb⟩

end Go.Proofs.YtjehjjpdicimhaaGreat

/-
  What a transaction has written (stage 11), without the program: a rising list of keys, each with what was written for it last; and what is found, laid under it.
-/
namespace Go.Proofs.YtjehjjpdicimhaaGreat
open Go.RowKit

/-! ## One more in its place, behind all that don't stand behind it -/

def insP {β : Type} (x : Ky × β) : List (Ky × β) → List (Ky × β)
  | [] => [x]
  | y :: r => if ltKy x.1 y.1 then x :: y :: r else y :: insP x r

section
variable {β : Type}

theorem insP_len (x : Ky × β) : ∀ l : List (Ky × β), (insP x l).length = l.length + 1
  | [] => rfl
  | y :: r => by
    unfold insP
    split
    · rfl
    · rw [List.length_cons, insP_len x r, List.length_cons]

theorem insP_mem (x z : Ky × β) : ∀ l : List (Ky × β), z ∈ insP x l ↔ z = x ∨ z ∈ l
  | [] => by simp [insP]
  | y :: r => by
    unfold insP
    split
    · rw [List.mem_cons]
    · rw [List.mem_cons, insP_mem x z r, List.mem_cons]
      constructor
      · rintro (h | h | h)
        · exact Or.inr (Or.inl h)
        · exact Or.inl h
        · exact Or.inr (Or.inr h)
      · rintro (h | h | h)
        · exact Or.inr (Or.inl h)
        · exact Or.inl h
        · exact Or.inr (Or.inr h)

/-- In the order of the keys; of one key, as they came. -/
def RiseP (l : List (Ky × β)) : Prop := l.Pairwise fun x y => ltKy y.1 x.1 = false

theorem lt_not {a b : Ky} (h : ltKy a b = true) : ltKy b a = false := by
  cases e : ltKy b a
  · rfl
  · have := totK.tr _ _ _ h e
    rw [totK.irr] at this
    cases this

theorem not_lt {a b c : Ky} (h : ltKy b a = false) (k : ltKy c b = false) : ltKy c a = false := by
  cases e : ltKy c a
  · rfl
  · rcases totK.tot b a with h1 | h1 | h1
    · rw [h] at h1; cases h1
    · rw [h1, e] at k; cases k
    · have := totK.tr _ _ _ e h1
      rw [k] at this; cases this

theorem insP_rise (x : Ky × β) : ∀ {l : List (Ky × β)}, RiseP l → RiseP (insP x l)
  | [], _ => List.pairwise_cons.2 ⟨fun _ h => by simp at h, List.Pairwise.nil⟩
  | y :: r, h => by
    obtain ⟨h1, h2⟩ := List.pairwise_cons.1 h
    unfold insP
    split
    · next hx =>
      refine List.pairwise_cons.2 ⟨fun z hz => ?_, h⟩
      rcases List.mem_cons.1 hz with rfl | hz
      · exact lt_not hx
      · exact not_lt (lt_not hx) (h1 z hz)
    · next hx =>
      refine List.pairwise_cons.2 ⟨fun z hz => ?_, insP_rise x h2⟩
      rcases (insP_mem x z r).1 hz with rfl | hz
      · simpa using hx
      · exact h1 z hz

/-- Where it comes to stand. -/
theorem insP_at (x : Ky × β) : ∀ (l : List (Ky × β)) (i : Nat), i ≤ l.length → (∀ j, (h : j < i) → (h' : j < l.length) → ltKy x.1 (l[j]).1 = false) → (∀ h : i < l.length, ltKy x.1 (l[i]).1 = true) → insP x l = l.take i ++ x :: l.drop i
  | [], i, hi, _, _ => by
    have : i = 0 := by simpa using hi
    subst this
    rfl
  | y :: r, 0, _, _, h2 => by
    unfold insP
    have : ltKy x.1 y.1 = true := h2 (by simp)
    rw [if_pos this]
    rfl
  | y :: r, i + 1, hi, h1, h2 => by
    unfold insP
    have : ltKy x.1 y.1 = false := h1 0 (by omega) (by simp)
    rw [if_neg (by rw [this]; simp), insP_at x r i (by simpa using hi) (fun j hj hj' => h1 (j + 1) (by omega) (by simpa using hj')) (fun h => h2 (by simpa using h))]
    rfl

theorem rise_get {l : List (Ky × β)} (h : RiseP l) {i j : Nat} (hij : i < j) (hj : j < l.length) : ltKy (l[j]).1 (l[i]'(by omega)).1 = false :=
  List.pairwise_iff_getElem.1 h i j (by omega) hj hij

/-- Behind the last that does not stand behind it. -/
theorem insP_last (x : Ky × β) {l : List (Ky × β)} (hl : RiseP l) (i : Nat) (hi : i ≤ l.length) (h1 : 0 < i → (h : i - 1 < l.length) → ltKy x.1 (l[i - 1]).1 = false) (h2 : ∀ j, i ≤ j → (h : j < l.length) → ltKy x.1 (l[j]).1 = true) : insP x l = l.take i ++ x :: l.drop i :=
  insP_at x l i hi (fun j hj hj' => by
    have h3 := h1 (by omega) (by omega)
    rcases Nat.lt_or_ge j (i - 1) with h | h
    · exact not_lt (rise_get hl h (by omega)) h3
    · have : j = i - 1 := by omega
      subst this
      exact h3) (fun h => h2 i (Nat.le_refl i) h)

/-! ## All of a list, each in its place -/

def sortP (l : List (Ky × β)) : List (Ky × β) := l.foldl (fun a x => insP x a) []

theorem sortP_snoc (l : List (Ky × β)) (x : Ky × β) : sortP (l ++ [x]) = insP x (sortP l) := by
  unfold sortP
  rw [List.foldl_append]
  rfl
theorem sortP_go (l : List (Ky × β)) : ∀ a, RiseP a → RiseP (l.foldl (fun a x => insP x a) a) ∧ (l.foldl (fun a x => insP x a) a).length = a.length + l.length ∧ ∀ z, z ∈ l.foldl (fun a x => insP x a) a ↔ z ∈ a ∨ z ∈ l := by
  induction l with
  | nil => exact fun a h => ⟨h, rfl, fun z => by simp⟩
  | cons x l ih =>
    intro a h
    obtain ⟨h1, h2, h3⟩ := ih (insP x a) (insP_rise x h)
    refine ⟨h1, ?_, fun z => ?_⟩
    · rw [List.foldl_cons, h2, insP_len, List.length_cons]; omega
    · rw [List.foldl_cons, h3, insP_mem, List.mem_cons]
      constructor
      · rintro ((h | h) | h)
        · exact Or.inr (Or.inl h)
        · exact Or.inl h
        · exact Or.inr (Or.inr h)
      · rintro (h | h | h)
        · exact Or.inl (Or.inr h)
        · exact Or.inl (Or.inl h)
        · exact Or.inr h
theorem sortP_rise (l : List (Ky × β)) : RiseP (sortP l) := (sortP_go l [] List.Pairwise.nil).1
theorem sortP_len (l : List (Ky × β)) : (sortP l).length = l.length := by
  have := (sortP_go l [] List.Pairwise.nil).2.1
  simpa [sortP] using this
theorem sortP_mem (l : List (Ky × β)) (z : Ky × β) : z ∈ sortP l ↔ z ∈ l := by
  have := (sortP_go l [] List.Pairwise.nil).2.2 z
  simpa [sortP] using this

theorem insP_filter (x : Ky × β) (k : Ky) : ∀ {l : List (Ky × β)}, RiseP l → (insP x l).filter (fun y => decide (y.1 = k)) = l.filter (fun y => decide (y.1 = k)) ++ [x].filter (fun y => decide (y.1 = k))
  | [], _ => by simp [insP]
  | y :: r, h => by
    obtain ⟨h1, h2⟩ := List.pairwise_cons.1 h
    unfold insP
    split
    · next hx =>
      by_cases e : x.1 = k
      · have : ∀ z ∈ y :: r, decide (z.1 = k) = false := fun z hz => by
          refine decide_eq_false fun ez => ?_
          rw [← e] at ez
          rcases List.mem_cons.1 hz with rfl | hz
          · rw [ez, totK.irr] at hx; cases hx
          · have h3 := h1 z hz
            rw [ez, hx] at h3; cases h3
        rw [List.filter_cons, List.filter_eq_nil_iff.2 (fun z hz => by rw [this z hz]; simp), List.filter_cons, List.filter_nil, List.nil_append]
      · have : decide (x.1 = k) = false := decide_eq_false e
        rw [List.filter_cons, this, List.filter_cons (x := x), this]
        simp
    · rw [List.filter_cons, insP_filter x k h2]
      conv => rhs; rw [List.filter_cons]
      split <;> simp

theorem sortP_filter (l : List (Ky × β)) (k : Ky) : (sortP l).filter (fun y => decide (y.1 = k)) = l.filter (fun y => decide (y.1 = k)) := by
  suffices h : ∀ a, RiseP a → (l.foldl (fun a x => insP x a) a).filter (fun y => decide (y.1 = k)) = a.filter (fun y => decide (y.1 = k)) ++ l.filter (fun y => decide (y.1 = k)) by
    have := h [] List.Pairwise.nil
    simpa [sortP] using this
  induction l with
  | nil => exact fun a _ => by simp
  | cons x l ih =>
    intro a ha
    rw [List.foldl_cons, ih _ (insP_rise x ha), insP_filter x k ha, List.append_assoc, ← List.filter_append]
    rfl

/-- There is one list in order with these, of each key as they come. -/
theorem riseP_uniq : ∀ {l m : List (Ky × β)}, RiseP l → RiseP m → (∀ k, l.filter (fun y => decide (y.1 = k)) = m.filter (fun y => decide (y.1 = k))) → l = m
  | [], [], _, _, _ => rfl
  | [], y :: m, _, _, h => by have := h y.1; simp at this
  | x :: l, [], _, _, h => by have := h x.1; simp at this
  | x :: l, y :: m, hl, hm, h => by
    obtain ⟨l1, l2⟩ := List.pairwise_cons.1 hl
    obtain ⟨m1, m2⟩ := List.pairwise_cons.1 hm
    have mem : ∀ {a b : List (Ky × β)}, (∀ k, a.filter (fun y => decide (y.1 = k)) = b.filter (fun y => decide (y.1 = k))) → ∀ z ∈ a, z ∈ b := fun {a b} h z hz => by
      have h1 : z ∈ a.filter (fun y => decide (y.1 = z.1)) := List.mem_filter.2 ⟨hz, by simp⟩
      rw [h z.1] at h1
      exact (List.mem_filter.1 h1).1
    have ek : x.1 = y.1 := by
      have hx := mem h x (by simp)
      have hy := mem (fun k => (h k).symm) y (by simp)
      rcases totK.tot x.1 y.1 with e | e | e
      · rcases List.mem_cons.1 hx with rfl | hx
        · rfl
        · have := m1 x hx
          rw [e] at this; cases this
      · exact e
      · rcases List.mem_cons.1 hy with rfl | hy
        · rfl
        · have := l1 y hy
          rw [e] at this; cases this
    have h0 := h x.1
    rw [List.filter_cons, if_pos (by simp), List.filter_cons, if_pos (by simp [ek])] at h0
    injection h0 with e0 _
    subst e0
    congr 1
    refine riseP_uniq l2 m2 fun k => ?_
    have := h k
    rw [List.filter_cons, List.filter_cons] at this
    split at this
    · injection this
    · exact this

theorem sortP_is {l m : List (Ky × β)} (hm : RiseP m) (h : ∀ k, m.filter (fun y => decide (y.1 = k)) = l.filter (fun y => decide (y.1 = k))) : m = sortP l :=
  riseP_uniq hm (sortP_rise l) fun k => (h k).trans (sortP_filter l k).symm
end

/-! ## What is written -/

/-- What was written for a key: a value (live), or that it is deleted. -/
abbrev Wr := Option (List Fld)
abbrev RowW := Ky × Wr

def getW : List RowW → Ky → Option Wr
  | [], _ => none
  | y :: r, k => if y.1 = k then some y.2 else getW r k
def delW (L : List RowW) (k : Ky) : List RowW := L.filter fun y => !decide (y.1 = k)
def layW (L : List RowW) (k : Ky) (e : Wr) : List RowW := insP (k, e) (delW L k)

/-- Rising keys that may be, and values that may be. -/
structure OkW (L : List RowW) : Prop where
  rise : L.Pairwise fun x y => ltKy x.1 y.1 = true
  key : ∀ y ∈ L, keyB y.1.1 y.1.2 = true
  may : ∀ y ∈ L, ∀ v, y.2 = some v → mayB v = true

theorem okW_nil : OkW [] := ⟨List.Pairwise.nil, fun _ h => by simp at h, fun _ h => by simp at h⟩

theorem getW_none {k : Ky} : ∀ {L : List RowW}, getW L k = none ↔ ∀ y ∈ L, y.1 ≠ k
  | [] => by simp [getW]
  | y :: r => by
    unfold getW
    split
    · next h => simp [h]
    · next h => simp [h, getW_none (L := r)]
theorem getW_mem {k : Ky} {e : Wr} : ∀ {L : List RowW}, getW L k = some e → (k, e) ∈ L
  | [], h => by simp [getW] at h
  | y :: r, h => by
    unfold getW at h
    split at h
    · next hy =>
      injection h with h
      subst h hy
      simp
    · exact List.mem_cons_of_mem _ (getW_mem h)
theorem getW_of {y : RowW} : ∀ {L : List RowW}, (L.Pairwise fun x y => ltKy x.1 y.1 = true) → y ∈ L → getW L y.1 = some y.2
  | [], _, h => by simp at h
  | z :: r, hp, h => by
    obtain ⟨h1, h2⟩ := List.pairwise_cons.1 hp
    unfold getW
    rcases List.mem_cons.1 h with rfl | h
    · rw [if_pos rfl]
    · rw [if_neg, getW_of h2 h]
      intro e
      have := h1 y h
      rw [e, totK.irr] at this
      cases this

theorem getW_del (L : List RowW) (k j : Ky) : getW (delW L k) j = if j = k then none else getW L j := by
  induction L with
  | nil => simp [delW, getW]
  | cons y r ih =>
    unfold delW at ih ⊢
    rw [List.filter_cons]
    by_cases h : y.1 = k
    · rw [decide_eq_true h]
      simp only [Bool.not_true, Bool.false_eq_true, if_false]
      rw [ih]
      unfold getW
      by_cases hj : j = k
      · rw [if_pos hj, if_pos hj]
      · rw [if_neg hj, if_neg hj, if_neg (fun e => hj (e.symm.trans h))]
        cases r <;> rfl
    · rw [decide_eq_false h]
      simp only [Bool.not_false, if_true]
      unfold getW
      by_cases hj : y.1 = j
      · rw [if_pos hj, if_pos hj, if_neg (fun e => h (hj.trans e))]
      · rw [if_neg hj, if_neg hj, ih]

theorem getW_ins {x : RowW} (j : Ky) : ∀ {L : List RowW}, (∀ y ∈ L, y.1 ≠ x.1) → getW (insP x L) j = if j = x.1 then some x.2 else getW L j
  | [], _ => by
    unfold insP getW
    by_cases h : x.1 = j
    · rw [if_pos h, if_pos h.symm]
    · rw [if_neg h, if_neg (fun e => h e.symm)]; rfl
  | y :: r, h => by
    unfold insP
    split
    · conv => lhs; unfold getW
      by_cases h1 : x.1 = j
      · rw [if_pos h1, if_pos h1.symm]
      · rw [if_neg h1, if_neg (fun e => h1 e.symm)]
    · unfold getW
      rw [getW_ins j (fun z hz => h z (List.mem_cons_of_mem _ hz))]
      by_cases h1 : y.1 = j
      · rw [if_pos h1, if_pos h1, if_neg (fun e => h y (by simp) (h1.trans e))]
      · rw [if_neg h1, if_neg h1]

theorem delW_ne {L : List RowW} {k : Ky} : ∀ y ∈ delW L k, y.1 ≠ k := fun y hy => by
  have := (List.mem_filter.1 hy).2
  simpa using this

theorem getW_lay (L : List RowW) (k j : Ky) (e : Wr) : getW (layW L k e) j = if j = k then some e else getW L j := by
  unfold layW
  rw [getW_ins j (x := (k, e)) delW_ne, getW_del]
  by_cases h : j = k
  · rw [if_pos h, if_pos h]
  · rw [if_neg h, if_neg h, if_neg h]

theorem rise_ins {x : RowW} : ∀ {L : List RowW}, (L.Pairwise fun x y => ltKy x.1 y.1 = true) → (∀ y ∈ L, y.1 ≠ x.1) → (insP x L).Pairwise fun x y => ltKy x.1 y.1 = true
  | [], _, _ => List.pairwise_cons.2 ⟨fun _ h => by simp at h, List.Pairwise.nil⟩
  | y :: r, h, hn => by
    obtain ⟨h1, h2⟩ := List.pairwise_cons.1 h
    unfold insP
    split
    · next hx =>
      refine List.pairwise_cons.2 ⟨fun z hz => ?_, h⟩
      rcases List.mem_cons.1 hz with rfl | hz
      · exact hx
      · exact totK.tr _ _ _ hx (h1 z hz)
    · next hx =>
      refine List.pairwise_cons.2 ⟨fun z hz => ?_, rise_ins h2 fun z hz => hn z (List.mem_cons_of_mem _ hz)⟩
      rcases (insP_mem x z r).1 hz with rfl | hz
      · rcases totK.tot y.1 z.1 with h3 | h3 | h3
        · exact h3
        · exact absurd h3 (hn y (by simp))
        · exact absurd h3 hx
      · exact h1 z hz

theorem okW_del {L : List RowW} (h : OkW L) (k : Ky) : OkW (delW L k) :=
  ⟨h.rise.sublist List.filter_sublist, fun y hy => h.key y (List.mem_filter.1 hy).1, fun y hy => h.may y (List.mem_filter.1 hy).1⟩

theorem okW_lay {L : List RowW} (h : OkW L) (k : Ky) (e : Wr) (hk : keyB k.1 k.2 = true) (he : ∀ v, e = some v → mayB v = true) : OkW (layW L k e) := by
  have h1 := okW_del h k
  refine ⟨rise_ins h1.rise delW_ne, fun y hy => ?_, fun y hy v hv => ?_⟩
  · rcases (insP_mem _ y _).1 hy with rfl | hy
    · exact hk
    · exact h1.key y hy
  · rcases (insP_mem _ y _).1 hy with rfl | hy
    · exact he v hv
    · exact h1.may y hy v hv

theorem delW_len (L : List RowW) (k : Ky) : (delW L k).length ≤ L.length := List.length_filter_le _ _
theorem layW_len (L : List RowW) (k : Ky) (e : Wr) : (layW L k e).length ≤ L.length + 1 := by
  unfold layW
  rw [insP_len]
  have := delW_len L k
  omega

/-- Rising lists that tell the same of every key are one. -/
theorem okW_uniq {L M : List RowW} (hL : OkW L) (hM : OkW M) (h : ∀ k, getW L k = getW M k) : L = M := by
  refine riseP_uniq (hL.rise.imp fun h => lt_not h) (hM.rise.imp fun h => lt_not h) fun k => ?_
  have key : ∀ {L : List RowW}, OkW L → L.filter (fun y => decide (y.1 = k)) = match getW L k with | some e => [(k, e)] | none => [] := fun {L} hL => by
    have hp := hL.rise
    clear hL
    induction L with
    | nil => rfl
    | cons y r ih =>
      obtain ⟨h1, h2⟩ := List.pairwise_cons.1 hp
      rw [List.filter_cons]
      unfold getW
      by_cases hy : y.1 = k
      · rw [decide_eq_true hy, if_pos hy]
        simp only [if_true]
        have : r.filter (fun y => decide (y.1 = k)) = [] := List.filter_eq_nil_iff.2 fun z hz => by
          have := h1 z hz
          rw [hy] at this
          simp only [decide_eq_true_eq]
          intro e
          rw [e, totK.irr] at this
          cases this
        rw [this, ← hy]
      · rw [decide_eq_false hy, if_neg hy]
        simp only [Bool.false_eq_true, if_false]
        exact ih h2
  rw [key hL, key hM, h k]

/-! ## The calls -/

def codePW (k : Ky) (v : List Fld) : Int := if keyB k.1 k.2 = false then 2 else if mayB v = false then 3 else 0
def codeDW (k : Ky) : Int := if keyB k.1 k.2 = false then 2 else 0
def putW (L : List RowW) (k : Ky) (v : List Fld) : List RowW := if codePW k v = 0 then layW L k (some v) else L
def dltW (L : List RowW) (k : Ky) : List RowW := if codeDW k = 0 then layW L k none else L
def liveW (o : Option Wr) : Bool := match o with | some (some _) => true | _ => false
def valW (o : Option Wr) : List Fld := match o with | some (some v) => v | _ => []

theorem code_key {k : Ky} {v : List Fld} (h : codePW k v = 0) : keyB k.1 k.2 = true ∧ mayB v = true := by
  unfold codePW at h
  split at h
  · cases h
  · next h1 =>
    split at h
    · cases h
    · next h2 => exact ⟨by simpa using h1, by simpa using h2⟩
theorem codeD_key {k : Ky} (h : codeDW k = 0) : keyB k.1 k.2 = true := by
  unfold codeDW at h
  split at h
  · cases h
  · next h1 => simpa using h1

theorem okW_put {L : List RowW} (h : OkW L) (k : Ky) (v : List Fld) : OkW (putW L k v) := by
  unfold putW
  split
  · next hc => exact okW_lay h k _ (code_key hc).1 fun u hu => by injection hu with hu; subst hu; exact (code_key hc).2
  · exact h
theorem okW_dlt {L : List RowW} (h : OkW L) (k : Ky) : OkW (dltW L k) := by
  unfold dltW
  split
  · next hc => exact okW_lay h k _ (codeD_key hc) fun u hu => by cases hu
  · exact h
theorem putW_len (L : List RowW) (k : Ky) (v : List Fld) : (putW L k v).length ≤ L.length + 1 := by
  unfold putW
  split
  · exact layW_len _ _ _
  · omega
theorem dltW_len (L : List RowW) (k : Ky) : (dltW L k).length ≤ L.length + 1 := by
  unfold dltW
  split
  · exact layW_len _ _ _
  · omega

theorem getW_put (L : List RowW) (k j : Ky) (v : List Fld) : getW (putW L k v) j = if codePW k v = 0 ∧ j = k then some (some v) else getW L j := by
  unfold putW
  by_cases hc : codePW k v = 0
  · rw [if_pos hc, getW_lay]
    by_cases hj : j = k
    · rw [if_pos hj, if_pos ⟨hc, hj⟩]
    · rw [if_neg hj, if_neg fun h => hj h.2]
  · rw [if_neg hc, if_neg fun h => hc h.1]
theorem getW_dlt (L : List RowW) (k j : Ky) : getW (dltW L k) j = if codeDW k = 0 ∧ j = k then some none else getW L j := by
  unfold dltW
  by_cases hc : codeDW k = 0
  · rw [if_pos hc, getW_lay]
    by_cases hj : j = k
    · rw [if_pos hj, if_pos ⟨hc, hj⟩]
    · rw [if_neg hj, if_neg fun h => hj h.2]
  · rw [if_neg hc, if_neg fun h => hc h.1]

def keysW (L : List RowW) : List Ky := L.map (·.1)

/-- What is found, as it stays. -/
def freeW (L : List RowW) (fs : List (Ky × Vr)) : List (Ky × Vr) := fs.filter fun f => (getW L f.1).isNone
/-- What of the written ones is to be found. -/
def hitW (typ : ByteArray) (m : List Fld → Bool) (y : RowW) : Option (Ky × Vr) :=
  match y.2 with
  | some v => if y.1.1 = typ ∧ m v = true then some (y.1, ⟨0, 0, 0, true, v⟩) else none
  | none => none
def hitsW (L : List RowW) (typ : ByteArray) (m : List Fld → Bool) : List (Ky × Vr) := L.filterMap (hitW typ m)
def overW (L : List RowW) (fs : List (Ky × Vr)) (typ : ByteArray) (m : List Fld → Bool) : List (Ky × Vr) := sortP (freeW L fs ++ hitsW L typ m)

theorem overW_rise (L : List RowW) (fs : List (Ky × Vr)) (typ : ByteArray) (m : List Fld → Bool) : RiseP (overW L fs typ m) := sortP_rise _
theorem overW_len (L : List RowW) (fs : List (Ky × Vr)) (typ : ByteArray) (m : List Fld → Bool) : (overW L fs typ m).length = (freeW L fs).length + (hitsW L typ m).length := by
  unfold overW
  rw [sortP_len, List.length_append]
theorem hitsW_mem {L : List RowW} {typ : ByteArray} {m : List Fld → Bool} {f : Ky × Vr} (h : f ∈ hitsW L typ m) : ∃ v, (f.1, some v) ∈ L ∧ f.1.1 = typ ∧ m v = true ∧ f.2 = ⟨0, 0, 0, true, v⟩ := by
  obtain ⟨y, hy, hh⟩ := List.mem_filterMap.1 h
  unfold hitW at hh
  split at hh
  · next v hv =>
    split at hh
    · next hc =>
      injection hh with hh
      subst hh
      exact ⟨v, by rw [← hv]; exact hy, hc.1, hc.2, rfl⟩
    · cases hh
  · cases hh
theorem overW_mem {L : List RowW} (hL : OkW L) {fs : List (Ky × Vr)} {typ : ByteArray} {m : List Fld → Bool} {f : Ky × Vr} (h : f ∈ overW L fs typ m) :
    getW L f.1 = none ∨ ∃ v, getW L f.1 = some (some v) ∧ f.1.1 = typ ∧ m v = true ∧ f.2 = ⟨0, 0, 0, true, v⟩ := by
  rcases List.mem_append.1 ((sortP_mem _ _).1 h) with h | h
  · left
    have := (List.mem_filter.1 h).2
    exact Option.isNone_iff_eq_none.1 this
  · right
    obtain ⟨v, h1, h2, h3, h4⟩ := hitsW_mem h
    exact ⟨v, getW_of hL.rise h1, h2, h3, h4⟩

end Go.Proofs.YtjehjjpdicimhaaGreat

/-
  The contracts of a strings.Builder's copyCheck and WriteByte at this program's own bodies.
-/
namespace Go.Proofs.YtjehjjpdicimhaaGreat
open Go.RowKit Go.Shelf

theorem Tryz.infoByte : (Tryz.prog.info? 5).map (fun i => (i.zero, i.size, i.bytes)) = some (some (.int .u8 0), 1, 1) := by kernel_rfl
theorem own_on {w w' : World} {base : Nat} {e : TypeId} {size : Nat} {v : Value} {n : Nat} {xs : List Value} (h : w.ownsRow base e size v n xs) (hb : Below w.heap.size w w') : w'.ownsRow base e size v n xs :=
  h.kept (row := none) ⟨hb.os, hb.tape, hb.output, hb.size, fun k hk _ => hb.block k hk⟩ (Classical.em _)

theorem bldAt_on {T e : TypeId} {B b : Nat} {p : Value} {bs : List Value} {w w' : World} (h : Lib.BuilderAt T e B b p bs w) (hb : Below w.heap.size w w') : Lib.BuilderAt T e B b p bs w' := by
  have hlt := h.lt
  obtain ⟨hB, v, hv, hown, hne⟩ := h
  exact ⟨hB, v, (hb.block b hlt).trans hv, own_on hown hb, hne⟩

theorem bld_on {T e : TypeId} {B b : Nat} {bs : List Value} {w w' : World} (h : Lib.IsBuilder T e B b bs w) (hb : Below w.heap.size w w') : Lib.IsBuilder T e B b bs w' :=
  h.elim (fun x => .inl (bldAt_on x hb)) (fun x => .inr (bldAt_on x hb))

end Go.Proofs.YtjehjjpdicimhaaGreat

/-
  The reader of bytes: its state, and the contracts of take, count and text.
-/
namespace Go.Proofs.YtjehjjpdicimhaaGreat
open Go.RowKit

/-- A reader's state: what is left, and whether it came short. -/
abbrev Rst := List UInt8 × Bool
def takeS (n : Nat) (s : Rst) : List UInt8 × Rst := if s.1.length < n then ([], (s.1, true)) else (s.1.take n, (s.1.drop n, s.2))
def countS (s : Rst) : Nat × Rst := match takeS 1 s with
  | (c :: _, s') => (c.toNat, s')
  | ([], s') => (0, s')
def textS (s : Rst) : ByteArray × Rst := (⟨(takeS (countS s).1 (countS s).2).1.toArray⟩, (takeS (countS s).1 (countS s).2).2)
def textsS : Nat → Rst → List ByteArray × Rst
  | 0, s => ([], s)
  | n + 1, s => ((textS s).1 :: (textsS n (textS s).2).1, (textsS n (textS s).2).2)
def fieldS (s : Rst) : Fld × Rst := (((textS s).1, (textsS (countS (textS s).2).1 (countS (textS s).2).2).1), (textsS (countS (textS s).2).1 (countS (textS s).2).2).2)
def fieldsS : Nat → Rst → List Fld × Rst
  | 0, s => ([], s)
  | n + 1, s => ((fieldS s).1 :: (fieldsS n (fieldS s).2).1, (fieldsS n (fieldS s).2).2)
def valueS (s : Rst) : List Fld × Rst := fieldsS (countS s).1 (countS s).2

/-- v is a slice of the bytes l, in a block below R. -/
def RestAt (R : Nat) (w : World) (v : Value) (l : List UInt8) : Prop :=
  ∃ p cap, v = .slice p l.length cap ∧ l.length ≤ cap ∧ cap ≤ maxLen ∧ (l = [] ∨ ∃ b off, p = some ⟨b, off, none⟩ ∧ b < R ∧ ∀ i, (h : i < l.length) → w.cell? ⟨b, off + i, none⟩ = some (.int .u8 l[i].toNat))

theorem RestAt.kept {R : Nat} {w w' : World} {v : Value} {l : List UInt8} (h : RestAt R w v l) (hg : w.grownBy w' (some R)) : RestAt R w' v l := by
  obtain ⟨p, cap, rfl, h1, h2, h⟩ := h
  refine ⟨p, cap, rfl, h1, h2, ?_⟩
  rcases h with h | ⟨b, off, hp, hb, h⟩
  · exact Or.inl h
  · exact Or.inr ⟨b, off, hp, hb, fun i hi => (hg.cell_far ⟨b, off + i, none⟩ (cell_block (h i hi)) (by simp; omega)).trans (h i hi)⟩

theorem addr_add (b off i : Nat) : (⟨b, off, none⟩ : Addr).add i = ⟨b, off + i, none⟩ := by
  unfold Addr.add
  split
  · rename_i h; simp_all
  · rfl

theorem restAt_take {R : Nat} {w : World} {p : Option Addr} {cap : Nat} {l : List UInt8} (h : RestAt R w (.slice p l.length cap) l) (n : Nat) (hn : n ≤ l.length) :
    RestAt R w (.slice p n cap) (l.take n) := by
  obtain ⟨p', cap', e, h1, h2, h⟩ := h
  cases e
  refine ⟨p, cap, by rw [List.length_take, Nat.min_eq_left hn], by rw [List.length_take]; omega, h2, ?_⟩
  rcases h with h | ⟨b, off, hp, hb, h⟩
  · left; rw [h]; simp
  · by_cases h0 : n = 0
    · left; rw [h0]; simp
    · right
      refine ⟨b, off, hp, hb, fun i hi => ?_⟩
      · rw [List.length_take] at hi
        rw [h i (by omega), List.getElem_take]

theorem restAt_drop {R : Nat} {w : World} {p : Option Addr} {cap : Nat} {l : List UInt8} (h : RestAt R w (.slice p l.length cap) l) (n : Nat) (hn : n ≤ l.length) (q : Option Addr) (hq : q = if cap = n then p else p.map (·.add n)) :
    RestAt R w (.slice q (l.length - n) (cap - n)) (l.drop n) := by
  obtain ⟨p', cap', e, h1, h2, h⟩ := h
  cases e
  refine ⟨q, cap - n, by rw [List.length_drop], by rw [List.length_drop]; omega, by omega, ?_⟩
  rcases h with h | ⟨b, off, hp, hb, h⟩
  · left; rw [h]; simp
  · by_cases h0 : n = l.length
    · left; rw [h0]; simp
    · right
      refine ⟨b, off + n, ?_, hb, fun i hi => ?_⟩
      · rw [hq, if_neg (by omega), hp, Option.map_some, addr_add]
      · rw [List.length_drop] at hi
        rw [Nat.add_assoc, h (n + i) (by omega), List.getElem_drop]

theorem restAt_cons {R : Nat} {w : World} {u : Value} {c : UInt8} {r : List UInt8} (h : RestAt R w u (c :: r)) :
    ∃ b off cap, u = .slice (some ⟨b, off, none⟩) (r.length + 1) cap ∧ w.cell? ⟨b, off, none⟩ = some (.int .u8 c.toNat) := by
  obtain ⟨p, cap, rfl, _, _, h⟩ := h
  rcases h with h | ⟨b, off, rfl, _, h⟩
  · cases h
  · exact ⟨b, off, cap, rfl, h 0 (by simp)⟩

theorem grown_set (w : World) (R i : Nat) (v : Value) : w.grownBy (w.setCell ⟨R, i, none⟩ v) (some R) :=
  ⟨rfl, rfl, rfl, by simp [World.setCell], fun k _ hne => Below.heap_setCell w _ _ k (fun e => hne (by rw [e]))⟩

theorem grown_trans {a b c : World} {R : Nat} (h : a.grownBy b (some R)) (k : b.grownBy c (some R)) : a.grownBy c (some R) :=
  ⟨k.os.trans h.os, k.tape.trans h.tape, k.output.trans h.output, Nat.le_trans h.size k.size, fun i hi hn => (k.block i (Nat.lt_of_lt_of_le hi h.size) hn).trans (h.block i hi hn)⟩

theorem rd_set0 {w : World} {R : Nat} {v v' u : Value} {T : TypeId} (h : w.heap[R]? = some (.cells #[v, u] T (0, 0))) : (w.setCell ⟨R, 0, none⟩ v').heap[R]? = some (.cells #[v', u] T (0, 0)) := heap_setCell_same w R 0 _ T v' h
theorem rd_set1 {w : World} {R : Nat} {v u u' : Value} {T : TypeId} (h : w.heap[R]? = some (.cells #[v, u] T (0, 0))) : (w.setCell ⟨R, 1, none⟩ u').heap[R]? = some (.cells #[v, u'] T (0, 0)) := heap_setCell_same w R 1 _ T u' h

end Go.Proofs.YtjehjjpdicimhaaGreat

/-
  The contract of the reader's field.
-/
namespace Go.Proofs.YtjehjjpdicimhaaGreat
open Go.RowKit

theorem Tryz.infoStr : (Tryz.prog.info? 9).map (fun i => (i.zero, i.size, i.bytes)) = some (some (.string ⟨#[]⟩), 1, 16) := by kernel_rfl

/-- v owns the texts ts, in a row at or behind n0. -/
def OwnT (n0 : Nat) (w : World) (v : Value) (ts : List ByteArray) : Prop := w.ownsRow n0 9 1 v ts.length (ts.map Value.string)

theorem own_weak {w : World} {base base' : Nat} {e : TypeId} {size : Nat} {v : Value} {n : Nat} {xs : List Value} (h : w.ownsRow base e size v n xs) (hb : base' ≤ base) : w.ownsRow base' e size v n xs := by
  refine ⟨h.1, ?_⟩
  rcases h.2 with h2 | ⟨g, cap, cur, h3, h4, h5⟩
  · exact .inl h2
  · exact .inr ⟨g, cap, cur, h3, by omega, h5⟩

theorem OwnT.on {n0 : Nat} {w w' : World} {v : Value} {ts : List ByteArray} (h : OwnT n0 w v ts) (hb : Below w.heap.size w w') : OwnT n0 w' v ts := own_on h hb

theorem OwnT.grown {n0 : Nat} {w w' : World} {v : Value} {ts : List ByteArray} {R : Nat} (h : OwnT n0 w v ts) (hg : w.grownBy w' (some R)) (hR : R < n0) : OwnT n0 w' v ts := by
  refine World.ownsRow.kept h hg ?_
  rcases hv : v.ownBlock with _ | k
  · exact Or.inl rfl
  · right
    intro e
    have := (World.ownsRow.lt h k hv).1
    simp at e; omega

theorem countS_le (s : Rst) : (countS s).1 ≤ 255 := by
  unfold countS
  split
  · rename_i c _ _ _; have := c.toNat_lt; simp; omega
  · simp

theorem textsS_snoc (n : Nat) (s : Rst) : textsS (n + 1) s = ((textsS n s).1 ++ [(textS (textsS n s).2).1], (textS (textsS n s).2).2) := by
  induction n generalizing s with
  | zero => rfl
  | succ n ih =>
    rw [textsS, ih]
    simp [textsS]

theorem textsS_len (n : Nat) (s : Rst) : (textsS n s).1.length = n := by
  induction n generalizing s with
  | zero => rfl
  | succ n ih => rw [textsS]; simp [ih]

end Go.Proofs.YtjehjjpdicimhaaGreat

/-
  The contracts of sameField, slices.EqualFunc over it, Equal, slices.Clone of texts, and Texts.
-/
namespace Go.Proofs.YtjehjjpdicimhaaGreat
open Go.RowKit

theorem toList_eq (a b : ByteArray) : (a.toList == b.toList) = decide (a = b) := by
  rw [Bool.eq_iff_iff]
  simp only [beq_iff_eq, decide_eq_true_eq]
  constructor
  · intro h
    rw [Lib.toList_data, Lib.toList_data] at h
    obtain ⟨⟨l⟩⟩ := a
    obtain ⟨⟨m⟩⟩ := b
    simp at h
    rw [h]
  · rintro rfl; rfl

end Go.Proofs.YtjehjjpdicimhaaGreat

/-
  The contracts of SameTexts, SameFields and Same of the reference.
-/
namespace Go.Proofs.YtjehjjpdicimhaaGreat
open Go.RowKit

theorem str_ne {s t : ByteArray} (h : ¬ s = t) : (s.toList == t.toList) = false := by
  rw [Lib.toList_data, Lib.toList_data, beq_eq_false_iff_ne]
  intro e
  apply h
  obtain ⟨⟨s⟩⟩ := s
  obtain ⟨⟨t⟩⟩ := t
  simp at e
  rw [e]

set_option maxHeartbeats 1000000 in
set_option maxRecDepth 100000 in
theorem sameT_any (p q : Option Addr) (cap cap' : Nat) (ts us : List ByteArray) (w : World) (h1 : TxtAt w p ts) (h2 : TxtAt w q us) (hl1 : ts.length ≤ maxLen) :
    Calls Tryz.prog 37 #[.slice p ts.length cap, .slice q us.length cap'] w fun e w' => e = .returned (.bool (decide (ts = us))) ∧ ∃ n, w' = w.drewN n := by
  unfold maxLen at hl1
  obtain ⟨r, hr⟩ : ∃ r, decide (ts = us) = r := ⟨_, rfl⟩
  rw [hr]
  have HR := hid hr
  have H1 := hid h1
  have H2 := hid h2
  clear hr h1 h2
  by_cases hl : ts.length = us.length
  · have hb : ((ts.length : Int) != (us.length : Int)) = false := by simp [hl]
    have HL := hid hl
    clear hl
    go_enter Tryz.func37, Tryz.ntmps37
    go_wp2_with fail
    go_loopg [5] ts.length (fun g vi wr => ∃ i m : Nat, vi = .int .i64 i ∧ i ≤ ts.length ∧ ts.length - i ≤ g ∧ wr = w.drewN m ∧ Hid (∀ j, j < i → ts[j]? = us[j]?))
    case atStart => exact ⟨0, 0, rfl, by omega, by omega, rfl, fun j h => by omega⟩
    case round =>
      obtain ⟨i, m, rfl, hi, hg, rfl, HJ⟩ := hrel
      by_cases hlt : i < ts.length
      · have hlt2 : i < us.length := by rw [← HL.out]; exact hlt
        have i1 : (0 : Int) ≤ ↑i := by omega
        have i2 : (↑i : Int) < ↑ts.length := by omega
        have i3 : (↑i : Int) < ↑us.length := by omega
        rcases H1.out with hn | ⟨b1, o1, rfl, k1⟩
        · rw [hn] at hlt; simp at hlt
        rcases H2.out with hn | ⟨b2, o2, rfl, k2⟩
        · rw [hn] at hlt2; simp at hlt2
        have e1 := k1 i hlt
        have e2 := k2 i hlt2
        have g1 : ts[i]? = some ts[i] := List.getElem?_eq_getElem hlt
        have g2 : us[i]? = some us[i] := List.getElem?_eq_getElem hlt2
        clear k1 k2
        obtain ⟨s, hs⟩ : ∃ s, ts[i] = s := ⟨_, rfl⟩
        obtain ⟨t, ht⟩ : ∃ t, us[i] = t := ⟨_, rfl⟩
        rw [hs] at e1 g1
        rw [ht] at e2 g2
        have G1 := hid g1
        have G2 := hid g2
        clear hs ht g1 g2
        by_cases hst : s = t
        · subst hst
          go_wp2_with fail
          go_quiet (fail)
          go_wp2_with fail
          go_roundg (ts.length - (i + 1))
          case measure => omega
          refine ⟨i + 1, _, by go_num, by omega, by omega, rfl, fun j hj => ?_⟩
          by_cases e : j = i
          · subst e; rw [G1.out, G2.out]
          · exact HJ.out j (by omega)
        · have hne := str_ne hst
          have H0 : Hid (r = false) := HR.out.symm.trans (decide_eq_false fun e => hst (by
            have := G1.out
            rw [e, G2.out] at this
            exact (Option.some.inj this).symm))
          go_wp2_with fail
          go_quiet (fail)
          go_wp2_with fail
          go_ret
          exact ⟨ret_bool H0.out.symm, _, by rw [World.drewN_drewN]⟩
      · have hltz : ¬ (i : Int) < (ts.length : Int) := by omega
        have H0 : Hid (r = true) := HR.out.symm.trans (decide_eq_true (List.ext_getElem? fun j => by
          by_cases hj : j < ts.length
          · exact HJ.out j (by omega)
          · rw [List.getElem?_eq_none (by omega), List.getElem?_eq_none (by have := HL.out; omega)]))
        go_wp2_with fail
        go_ret
        exact ⟨ret_bool H0.out.symm, _, rfl⟩
  · have hb : ((ts.length : Int) != (us.length : Int)) = true := by simp; omega
    have H0 : Hid (r = false) := HR.out.symm.trans (decide_eq_false fun e => hl (by rw [e]))
    go_enter Tryz.func37, Tryz.ntmps37
    go_wp2_with fail
    go_ret
    exact ⟨ret_bool H0.out.symm, 0, rfl⟩

theorem TxtAt.draws {w : World} {p : Option Addr} {ts : List ByteArray} (h : TxtAt w p ts) (n : Nat) : TxtAt (w.drewN n) p ts := h

set_option maxHeartbeats 2000000 in
set_option maxRecDepth 100000 in
theorem sameF_any (v u : Value) (d e : List Fx) (w : World) (hv : IsXs w v d) (hu : IsXs w u e) (hf : FitX d) (hg : FitX e) :
    Calls Tryz.prog 14 #[v, u] w fun r w' => r = .returned (.bool (decide (d.map Fx.fld = e.map Fx.fld))) ∧ ∃ n, w' = w.drewN n := by
  obtain ⟨p, cap, rfl, hd, ht⟩ := hv
  obtain ⟨q, cap', rfl, he, ht'⟩ := hu
  have hl1 := hf.1
  have hl2 := hg.1
  unfold maxLen at hl1 hl2
  have HF := hid hf.2
  have HG := hid hg.2
  have HD := hid hd
  have HE := hid he
  have HT := hid ht
  have HT' := hid ht'
  obtain ⟨r, hr⟩ : ∃ r, decide (d.map Fx.fld = e.map Fx.fld) = r := ⟨_, rfl⟩
  rw [hr]
  have HR := hid hr
  clear hr hd he ht ht' hf hg
  by_cases hl : d.length = e.length
  · have hb : ((d.length : Int) != (e.length : Int)) = false := by simp [hl]
    have HL := hid hl
    clear hl
    go_enter Tryz.func14, Tryz.ntmps14
    go_wp2_with fail
    go_loopg [5] d.length (fun g vi wr => ∃ i m : Nat, vi = .int .i64 i ∧ i ≤ d.length ∧ d.length - i ≤ g ∧ wr = w.drewN m ∧ Hid (∀ j, j < i → (d.map Fx.fld)[j]? = (e.map Fx.fld)[j]?))
    case atStart => exact ⟨0, 0, rfl, by omega, by omega, rfl, fun j h => by omega⟩
    case round =>
      obtain ⟨i, m, rfl, hi, hgk, rfl, HJ⟩ := hrel
      by_cases hlt : i < d.length
      · have hlt2 : i < e.length := by rw [← HL.out]; exact hlt
        have i1 : (0 : Int) ≤ ↑i := by omega
        have i2 : (↑i : Int) < ↑d.length := by omega
        have i3 : (↑i : Int) < ↑e.length := by omega
        rcases HD.out with hn | ⟨b1, o1, rfl, k1⟩
        · rw [hn] at hlt; simp at hlt
        rcases HE.out with hn | ⟨b2, o2, rfl, k2⟩
        · rw [hn] at hlt2; simp at hlt2
        obtain ⟨x0, x1⟩ := k1 i hlt
        obtain ⟨y0, y1⟩ := k2 i hlt2
        have g1 : (d.map Fx.fld)[i]? = some (d[i]).fld := by rw [List.getElem?_map, List.getElem?_eq_getElem hlt]; rfl
        have g2 : (e.map Fx.fld)[i]? = some (e[i]).fld := by rw [List.getElem?_map, List.getElem?_eq_getElem hlt2]; rfl
        have fx := HF.out _ (List.getElem_mem hlt)
        have fy := HG.out _ (List.getElem_mem hlt2)
        have tx := HT.out _ (List.getElem_mem hlt)
        have ty := HT'.out _ (List.getElem_mem hlt2)
        clear k1 k2
        obtain ⟨x, hx⟩ : ∃ x, d[i] = x := ⟨_, rfl⟩
        obtain ⟨y, hy⟩ : ∃ y, e[i] = y := ⟨_, rfl⟩
        rw [hx] at x0 x1 g1 fx tx
        rw [hy] at y0 y1 g2 fy ty
        unfold Fx.sl at x1 y1
        have G1 := hid g1
        have G2 := hid g2
        obtain ⟨W, hW⟩ : ∃ W, w.drewN m = W := ⟨_, rfl⟩
        have HC : Hid (∀ n, Calls Tryz.prog 37 #[.slice x.p x.txt.length x.cap, .slice y.p y.txt.length y.cap] (W.drewN n) fun r w' => r = .returned (.bool (decide (x.txt = y.txt))) ∧ ∃ k, w' = (W.drewN n).drewN k) := fun n => by
          subst hW
          exact sameT_any _ _ _ _ _ _ _ tx ty fx.2.1
        replace x0 : W.cell? ⟨b1, o1 + i * 2, none⟩ = some (.string x.name) := by subst hW; exact x0
        replace x1 : W.cell? ⟨b1, o1 + i * 2 + 1, none⟩ = some (.slice x.p x.txt.length x.cap) := by subst hW; exact x1
        replace y0 : W.cell? ⟨b2, o2 + i * 2, none⟩ = some (.string y.name) := by subst hW; exact y0
        replace y1 : W.cell? ⟨b2, o2 + i * 2 + 1, none⟩ = some (.slice y.p y.txt.length y.cap) := by subst hW; exact y1
        have HW := hid hW
        rw [hW]
        have mixed := Tryz.mixed
        clear hx hy g1 g2 fx fy tx ty hW
        by_cases hst : x.name = y.name
        · obtain ⟨nm, hnm⟩ : ∃ nm, y.name = nm := ⟨_, rfl⟩
          rw [hst, hnm] at x0
          rw [hnm] at y0
          have HN : Hid (x.name = nm ∧ y.name = nm) := ⟨hst.trans hnm, hnm⟩
          clear hst hnm
          by_cases hts : x.txt = y.txt
          · have hd := decide_eq_true hts
            have HTS := hid hts
            rw [hd] at HC
            clear hd hts
            go_wp2_with fail
            refine wp_region_quiet_lit mixed (by kernel_rfl) ?_
            repeat (go_big_quiet_step (first | (go_at_call 37; refine Calls.quiet_of (HC.out _))))
            refine wpQuiet_nil ?_
            intro _ hw'
            obtain ⟨nq, hw''⟩ := hw'
            subst hw''
            go_wp2_with fail
            go_roundg (d.length - (i + 1))
            case measure => omega
            refine ⟨i + 1, m + nq, by go_num, by omega, by omega, by rw [← HW.out, World.drewN_drewN], fun j hj => ?_⟩
            by_cases ej : j = i
            · subst ej
              rw [G1.out, G2.out]
              unfold Fx.fld
              rw [HN.out.1, HN.out.2, HTS.out]
            · exact HJ.out j (by omega)
          · have hd := decide_eq_false hts
            rw [hd] at HC
            have H0 : Hid (r = false) := HR.out.symm.trans (decide_eq_false fun ee => hts (by
              have := G1.out
              rw [ee, G2.out] at this
              have := congrArg Prod.snd (Option.some.inj this)
              exact this.symm))
            clear hd hts
            go_wp2_with fail
            refine wp_region_quiet_lit mixed (by kernel_rfl) ?_
            repeat (go_big_quiet_step (first | (go_at_call 37; refine Calls.quiet_of (HC.out _))))
            refine wpQuiet_nil ?_
            intro _ hw'
            obtain ⟨nq, hw''⟩ := hw'
            subst hw''
            go_wp2_with fail
            go_ret
            exact ⟨ret_bool H0.out.symm, m + nq, by rw [← HW.out, World.drewN_drewN]⟩
        · have hne := str_ne hst
          have H0 : Hid (r = false) := HR.out.symm.trans (decide_eq_false fun ee => hst (by
            have := G1.out
            rw [ee, G2.out] at this
            have := congrArg Prod.fst (Option.some.inj this)
            exact this.symm))
          go_wp2_with fail
          refine wp_region_quiet_lit mixed (by kernel_rfl) ?_
          repeat (go_big_quiet_step (first | (go_at_call 37; refine Calls.quiet_of (HC.out _))))
          refine wpQuiet_nil ?_
          intro _ hw'
          obtain ⟨nq, hw''⟩ := hw'
          subst hw''
          go_wp2_with fail
          go_ret
          exact ⟨ret_bool H0.out.symm, m + nq, by rw [← HW.out, World.drewN_drewN]⟩
      · have hltz : ¬ (i : Int) < (d.length : Int) := by omega
        have H0 : Hid (r = true) := HR.out.symm.trans (decide_eq_true (List.ext_getElem? fun j => by
          by_cases hj : j < d.length
          · exact HJ.out j (by omega)
          · rw [List.getElem?_eq_none (by simp; omega), List.getElem?_eq_none (by have := HL.out; simp; omega)]))
        go_wp2_with fail
        go_ret
        exact ⟨ret_bool H0.out.symm, _, rfl⟩
  · have hb : ((d.length : Int) != (e.length : Int)) = true := by simp; omega
    have H0 : Hid (r = false) := HR.out.symm.trans (decide_eq_false fun ee => hl (by have := congrArg List.length ee; simpa using this))
    go_enter Tryz.func14, Tryz.ntmps14
    go_wp2_with fail
    go_ret
    exact ⟨ret_bool H0.out.symm, 0, rfl⟩

end Go.Proofs.YtjehjjpdicimhaaGreat

/-
  The contracts of the reader's value, and of Decode.
-/
namespace Go.Proofs.YtjehjjpdicimhaaGreat
open Go.RowKit

theorem Tryz.infoFld : (Tryz.prog.info? 63).map (fun i => (i.zero, i.size, i.bytes)) = some (some (.agg #[.string ⟨#[]⟩, .slice none 0 0]), 2, 40) := by kernel_rfl

def cellsX (d : List Fx) : List Value := d.flatMap encX
theorem cellsX_append (d e : List Fx) : cellsX (d ++ e) = cellsX d ++ cellsX e := List.flatMap_append
theorem cellsX_len (d : List Fx) : (cellsX d).length = d.length * 2 := by
  induction d with
  | nil => rfl
  | cons x d ih => simp [cellsX, encX] at ih ⊢; omega
theorem cellsX_get (d : List Fx) (i : Nat) (h : i < d.length) : (cellsX d)[i * 2]? = some (.string d[i].name) ∧ (cellsX d)[i * 2 + 1]? = some d[i].sl := by
  induction d generalizing i with
  | nil => simp at h
  | cons x d ih =>
    have e : cellsX (x :: d) = .string x.name :: x.sl :: cellsX d := rfl
    rw [e]
    cases i with
    | zero => simp
    | succ i =>
      have := ih i (by simpa using h)
      rw [show (i + 1) * 2 = i * 2 + 1 + 1 by omega]
      simpa using this

/-- v owns the fields d, and each of them its texts, in rows at or behind n0. -/
def OwnXs (n0 : Nat) (w : World) (v : Value) (d : List Fx) : Prop := w.ownsRow n0 63 2 v d.length (cellsX d) ∧ ∀ x ∈ d, OwnT n0 w x.sl x.txt

theorem OwnT.txtAt {n0 : Nat} {w : World} {p : Option Addr} {cap : Nat} {ts : List ByteArray} (h : OwnT n0 w (.slice p ts.length cap) ts) : TxtAt w p ts := by
  rcases h.2 with ⟨_, h0⟩ | ⟨g, c, cur, hv, _, hg, _, _, hsz, htk⟩
  · exact Or.inl (List.length_eq_zero_iff.1 h0)
  · right
    injection hv with hp
    refine ⟨g, 0, hp, fun i hi => ?_⟩
    rw [Nat.zero_add, cell_of_row w g i cur _ _ hg]
    have : (ts.map Value.string)[i]? = cur.toList[i]? := by
      rw [← htk, List.getElem?_take, if_pos (by omega)]
    rw [← Array.getElem?_toList, ← this]
    simp [hi]

theorem OwnXs.is {n0 : Nat} {w : World} {v : Value} {d : List Fx} (h : OwnXs n0 w v d) : IsXs w v d := by
  obtain ⟨h1, h2⟩ := h
  rcases h1.2 with ⟨rfl, h0⟩ | ⟨g, c, cur, rfl, _, hg, _, _, hsz, htk⟩
  · obtain rfl := List.length_eq_zero_iff.1 h0
    exact ⟨none, 0, rfl, Or.inl rfl, fun x hx => by simp at hx⟩
  · refine ⟨_, c, rfl, Or.inr ⟨g, 0, rfl, fun i hi => ?_⟩, fun x hx => OwnT.txtAt (h2 x hx)⟩
    obtain ⟨c0, c1⟩ := cellsX_get d i hi
    have e : ∀ j, j < d.length * 2 → (cellsX d)[j]? = cur[j]? := fun j hj => by
      rw [← htk, List.getElem?_take, if_pos hj, Array.getElem?_toList]
    rw [Nat.zero_add, cell_of_row w g _ cur _ _ hg, cell_of_row w g _ cur _ _ hg, ← e _ (by omega), ← e _ (by omega)]
    exact ⟨c0, c1⟩

theorem OwnXs.on {n0 : Nat} {w w' : World} {v : Value} {d : List Fx} (h : OwnXs n0 w v d) (hb : Below w.heap.size w w') : OwnXs n0 w' v d := ⟨own_on h.1 hb, fun x hx => (h.2 x hx).on hb⟩

theorem OwnXs.far {n0 R : Nat} {w w' : World} {v : Value} {d : List Fx} (h : OwnXs n0 w v d) (hg : w.grownBy w' (some R)) (hR : R < n0) : OwnXs n0 w' v d := by
  refine ⟨World.ownsRow.kept h.1 hg ?_, fun x hx => (h.2 x hx).grown hg hR⟩
  rcases hv : v.ownBlock with _ | k
  · exact Or.inl rfl
  · right
    intro e
    have := (World.ownsRow.lt h.1 k hv).1
    simp at e; omega

/-- Texts lie in no row of fields. -/
theorem OwnT.rowX {n0 : Nat} {w w' : World} {sv v : Value} {ts : List ByteArray} {n m : Nat} {xs : List Value} {m0 : Nat} (h : OwnT n0 w sv ts) (hv : w.ownsRow m0 63 n v m xs) (hg : w.grownBy w' v.ownBlock) : OwnT n0 w' sv ts := by
  refine World.ownsRow.kept h hg ?_
  rcases h.2 with ⟨rfl, _⟩ | ⟨g, c, cur, rfl, _, hgb, _⟩
  · exact Or.inl rfl
  · right
    intro e
    rcases hv.2 with ⟨rfl, _⟩ | ⟨g', c', cur', rfl, _, hgb', _⟩
    · cases e
    · have : g = g' := by simpa [Value.ownBlock] using e
      subst this
      rw [hgb] at hgb'
      injection hgb' with hgb'
      injection hgb' with _ ht
      exact absurd ht (by decide)

theorem fieldsS_snoc (n : Nat) (s : Rst) : fieldsS (n + 1) s = ((fieldsS n s).1 ++ [(fieldS (fieldsS n s).2).1], (fieldS (fieldsS n s).2).2) := by
  induction n generalizing s with
  | zero => rfl
  | succ n ih =>
    rw [fieldsS, ih]
    simp [fieldsS]

theorem own_slice {n0 : Nat} {w : World} {sv : Value} {ts : List ByteArray} (h : OwnT n0 w sv ts) : ∃ p cap, sv = .slice p ts.length cap := by
  rcases h.2 with ⟨hv, h0⟩ | ⟨g, cap, cur, hv, _⟩
  · exact ⟨none, 0, by rw [hv, h0]⟩
  · exact ⟨_, _, hv⟩

theorem news_x (w : World) (x : Fx) : ∀ j u, (cellsX [x])[j]? = some u → (w.alloc (.cells #[.string x.name, .slice x.p x.txt.length x.cap] 63)).cell? ((⟨w.heap.size, 0, none⟩ : Addr).add j) = some u := by
  intro j u hj
  have e : cellsX [x] = [.string x.name, .slice x.p x.txt.length x.cap] := rfl
  rw [e] at hj
  match j, hj with
  | 0, hj => simp at hj; subst hj; simp [Addr.add]
  | 1, hj => simp at hj; subst hj; rw [addr_add]; simp

theorem cellsX_one (d : List Fx) : ∀ u ∈ cellsX d, u.oneCell' = true := by
  intro u hu
  obtain ⟨x, _, hx⟩ := List.mem_flatMap.1 hu
  simp [encX] at hx
  rcases hx with rfl | rfl <;> rfl

/-- One field more behind a row of fields. -/
theorem OwnXs.put {n0 : Nat} {w w' : World} {v v' : Value} {d : List Fx} {x : Fx} (h : OwnXs n0 w v d) (hx : OwnT n0 w x.sl x.txt) (hown : w'.ownsRow n0 63 2 v' (d.length + 1) (cellsX d ++ cellsX [x])) (hg : w.grownBy w' v.ownBlock) : OwnXs n0 w' v' (d ++ [x]) := by
  refine ⟨?_, fun y hy => ?_⟩
  · rw [cellsX_append, List.length_append]; exact hown
  · rw [List.mem_append, List.mem_singleton] at hy
    rcases hy with hy | rfl
    · exact (h.2 y hy).rowX h.1 hg
    · exact hx.rowX h.1 hg

def decodeO (l : List UInt8) : Option (List Fld) := if (valueS (l, false)).2.2 = true ∨ 0 < (valueS (l, false)).2.1.length ∨ mayB (valueS (l, false)).1 = false then none else some (valueS (l, false)).1

def DecPost (w : World) (l : List UInt8) (e : Ending) (w' : World) : Prop :=
  (decodeO l = none ∧ e = .returned (.tuple #[.slice none 0 0, .int .i64 4]) ∨ ∃ fs, decodeO l = some fs ∧ ∃ u d, e = .returned (.tuple #[u, .int .i64 0]) ∧ OwnXs w.heap.size w' u d ∧ d.map Fx.fld = fs) ∧ Below w.heap.size w w'

/-- What a reader gives, a machine can hold. -/
theorem takeS_small (n : Nat) (s : Rst) : (takeS n s).1.length ≤ n := by
  unfold takeS
  split
  · simp
  · simp; omega
theorem textS_small (s : Rst) : (textS s).1.size ≤ 255 := by
  have h1 := takeS_small (countS s).1 (countS s).2
  have h2 := countS_le s
  show (takeS (countS s).1 (countS s).2).1.toArray.size ≤ 255
  rw [List.size_toArray]; omega
theorem textsS_small (n : Nat) (s : Rst) : ∀ t ∈ (textsS n s).1, t.size ≤ 255 := by
  induction n generalizing s with
  | zero => intro t ht; simp [textsS] at ht
  | succ n ih =>
    intro t ht
    rw [textsS, List.mem_cons] at ht
    rcases ht with rfl | ht
    · exact textS_small s
    · exact ih _ t ht
theorem fieldS_small (s : Rst) : FitF (fieldS s).1 := by
  refine ⟨?_, ?_, fun t ht => ?_⟩
  · have := textS_small s; show (textS s).1.size ≤ maxLen; unfold maxLen; omega
  · show (textsS _ _).1.length ≤ maxLen
    rw [textsS_len]; have := countS_le (textS s).2; unfold maxLen; omega
  · have := textsS_small _ _ t ht; unfold maxLen; omega
theorem fieldsS_small (n : Nat) (s : Rst) : ∀ f ∈ (fieldsS n s).1, FitF f := by
  induction n generalizing s with
  | zero => intro t ht; simp [fieldsS] at ht
  | succ n ih =>
    intro t ht
    rw [fieldsS, List.mem_cons] at ht
    rcases ht with rfl | ht
    · exact fieldS_small s
    · exact ih _ t ht

theorem fitX_of {d : List Fx} {fs : List Fld} (h : d.map Fx.fld = fs) (hl : d.length ≤ maxLen) (hf : ∀ f ∈ fs, FitF f) : FitX d :=
  ⟨hl, fun x hx => hf _ (by rw [← h]; exact List.mem_map.2 ⟨x, hx, rfl⟩)⟩

end Go.Proofs.YtjehjjpdicimhaaGreat

/-
  Rows of plain elements, whatever their kind: how they lie in memory, and who owns them.
-/
namespace Go.Proofs.YtjehjjpdicimhaaGreat
open Go.RowKit

/-- A kind of element: its type, how many cells it has, and which. -/
structure Kind (α : Type) where
  T : TypeId
  k : Nat
  enc : α → List Value
  len : ∀ x, (enc x).length = k
  pos : 0 < k
  one : ∀ x, ∀ u ∈ enc x, u.oneCell' = true

def Kind.cells {α : Type} (K : Kind α) (d : List α) : List Value := d.flatMap K.enc

theorem Kind.cells_nil {α : Type} (K : Kind α) : K.cells [] = [] := rfl
theorem Kind.cells_one {α : Type} (K : Kind α) (x : α) : K.cells [x] = K.enc x := by simp [Kind.cells]
theorem Kind.cells_append {α : Type} (K : Kind α) (a b : List α) : K.cells (a ++ b) = K.cells a ++ K.cells b := List.flatMap_append
theorem Kind.cells_len {α : Type} (K : Kind α) (d : List α) : (K.cells d).length = d.length * K.k := by
  induction d with
  | nil => simp [Kind.cells]
  | cons x d ih =>
    have e : K.cells (x :: d) = K.enc x ++ K.cells d := rfl
    rw [e, List.length_append, K.len, ih, List.length_cons, Nat.add_mul, Nat.one_mul, Nat.add_comm]

theorem Kind.cells_get {α : Type} (K : Kind α) (d : List α) (i : Nat) (h : i < d.length) (j : Nat) (hj : j < K.k) : (K.cells d)[i * K.k + j]? = (K.enc d[i])[j]? := by
  induction d generalizing i with
  | nil => simp at h
  | cons x d ih =>
    have e : K.cells (x :: d) = K.enc x ++ K.cells d := rfl
    rw [e]
    cases i with
    | zero => rw [Nat.zero_mul, Nat.zero_add, List.getElem?_append_left (by rw [K.len]; exact hj)]; rfl
    | succ i =>
      have hl : (K.enc x).length ≤ (i + 1) * K.k + j := by rw [K.len, Nat.add_mul, Nat.one_mul]; omega
      rw [List.getElem?_append_right hl, K.len]
      have e2 : (i + 1) * K.k + j - K.k = i * K.k + j := by rw [Nat.add_mul, Nat.one_mul]; omega
      rw [e2]
      exact ih i (by simpa using h)

theorem Kind.cells_ones {α : Type} (K : Kind α) (d : List α) : ∀ u ∈ K.cells d, u.oneCell' = true := by
  intro u hu
  obtain ⟨x, _, hx⟩ := List.mem_flatMap.1 hu
  exact K.one x u hx

/-- The elements d lie from off on in block b. -/
def Kind.At {α : Type} (K : Kind α) (w : World) (b off : Nat) (d : List α) : Prop :=
  ∀ i, (h : i < d.length) → ∀ j u, (K.enc d[i])[j]? = some u → w.cell? ⟨b, off + i * K.k + j, none⟩ = some u

/-- v is a slice that holds the elements d. -/
def Kind.Is {α : Type} (K : Kind α) (w : World) (v : Value) (d : List α) : Prop :=
  ∃ p cap, v = .slice p d.length cap ∧ (d = [] ∨ ∃ b off, p = some ⟨b, off, none⟩ ∧ K.At w b off d)

/-- v owns a row of the elements d, in a block at or behind n0. -/
def Kind.Own {α : Type} (K : Kind α) (n0 : Nat) (w : World) (v : Value) (d : List α) : Prop := w.ownsRow n0 K.T K.k v d.length (K.cells d)

theorem Kind.at_kept {α : Type} {K : Kind α} {w w' : World} {b off : Nat} {d : List α} (h : K.At w b off d) (hb : Below w.heap.size w w') : K.At w' b off d :=
  fun i hi j u hu => (hb.cell (p := ⟨b, off + i * K.k + j, none⟩) (cell_block (h i hi j u hu))).trans (h i hi j u hu)

theorem Kind.is_kept {α : Type} {K : Kind α} {w w' : World} {v : Value} {d : List α} (h : K.Is w v d) (hb : Below w.heap.size w w') : K.Is w' v d := by
  obtain ⟨p, cap, rfl, h⟩ := h
  refine ⟨p, cap, rfl, ?_⟩
  rcases h with h | ⟨b, off, hp, h⟩
  · exact Or.inl h
  · exact Or.inr ⟨b, off, hp, K.at_kept h hb⟩

theorem Kind.is_nil {α : Type} (K : Kind α) (w : World) : K.Is w (.slice none 0 0) [] := ⟨none, 0, rfl, Or.inl rfl⟩
theorem Kind.own_nil {α : Type} (K : Kind α) (n0 : Nat) (w : World) : K.Own n0 w (.slice none 0 0) [] := World.ownsRow_nil _ _ _ _

theorem Kind.own_on {α : Type} {K : Kind α} {n0 : Nat} {w w' : World} {v : Value} {d : List α} (h : K.Own n0 w v d) (hb : Below w.heap.size w w') : K.Own n0 w' v d := _root_.Go.Proofs.YtjehjjpdicimhaaGreat.own_on h hb
theorem Kind.own_weak {α : Type} {K : Kind α} {n0 n1 : Nat} {w : World} {v : Value} {d : List α} (h : K.Own n0 w v d) (hn : n1 ≤ n0) : K.Own n1 w v d := _root_.Go.Proofs.YtjehjjpdicimhaaGreat.own_weak h hn

theorem Kind.own_shape {α : Type} {K : Kind α} {n0 : Nat} {w : World} {v : Value} {d : List α} (h : K.Own n0 w v d) : ∃ p cap, v = .slice p d.length cap := by
  rcases h.2 with ⟨hv, h0⟩ | ⟨g, cap, cur, hv, _⟩
  · exact ⟨none, 0, by rw [hv, h0]⟩
  · exact ⟨_, _, hv⟩

theorem Kind.own_is {α : Type} {K : Kind α} {n0 : Nat} {w : World} {v : Value} {d : List α} (h : K.Own n0 w v d) : K.Is w v d := by
  rcases h.2 with ⟨rfl, h0⟩ | ⟨g, c, cur, rfl, _, hg, _, _, hsz, htk⟩
  · obtain rfl := List.length_eq_zero_iff.1 h0
    exact K.is_nil w
  · refine ⟨_, c, rfl, Or.inr ⟨g, 0, rfl, fun i hi j u hu => ?_⟩⟩
    have hj : j < K.k := by
      have := (List.getElem?_eq_some_iff.1 hu).1
      rwa [K.len] at this
    have hlt : i * K.k + j < d.length * K.k := by
      have h1 : (i + 1) * K.k ≤ d.length * K.k := Nat.mul_le_mul_right _ hi
      rw [Nat.add_mul, Nat.one_mul] at h1
      omega
    rw [Nat.zero_add, cell_of_row w g _ cur _ _ hg, ← Array.getElem?_toList]
    have : (K.cells d)[i * K.k + j]? = cur.toList[i * K.k + j]? := by rw [← htk, List.getElem?_take, if_pos hlt]
    rw [← this, K.cells_get d i hi j hj, hu]

/-- What a slice of elements gives an append. -/
theorem Kind.src {α : Type} {K : Kind α} {w : World} {p : Option Addr} {d : List α} (h : d = [] ∨ ∃ b off, p = some ⟨b, off, none⟩ ∧ K.At w b off d) :
    d.length = 0 ∨ ∃ ad, p = some ad ∧ ∀ j u, (K.cells d)[j]? = some u → w.cell? (ad.add j) = some u := by
  rcases h with rfl | ⟨b, off, rfl, hx⟩
  · exact Or.inl rfl
  · refine Or.inr ⟨_, rfl, fun j u hu => ?_⟩
    have hj : j < d.length * K.k := by
      have := (List.getElem?_eq_some_iff.1 hu).1
      rwa [K.cells_len] at this
    have hk : j / K.k < d.length := (Nat.div_lt_iff_lt_mul K.pos).2 hj
    have hm : j % K.k < K.k := Nat.mod_lt _ K.pos
    have e : j / K.k * K.k + j % K.k = j := by rw [Nat.mul_comm]; exact Nat.div_add_mod j K.k
    have hg := K.cells_get d (j / K.k) hk (j % K.k) hm
    rw [e, hu] at hg
    have := hx (j / K.k) hk (j % K.k) u hg.symm
    rw [addr_add]
    rw [Nat.add_assoc, e] at this
    exact this

/-- A literal row of one element. -/
theorem Kind.news {α : Type} (K : Kind α) (w : World) (x : α) : ∀ j u, (K.cells [x])[j]? = some u → (w.alloc (.cells (K.enc x).toArray K.T)).cell? ((⟨w.heap.size, 0, none⟩ : Addr).add j) = some u := by
  intro j u hu
  rw [K.cells_one] at hu
  rw [addr_add, Nat.zero_add, cell_of_row _ _ _ _ _ _ (heap_alloc_new w _)]
  simpa using hu

theorem Kind.own_snoc {α : Type} {K : Kind α} {n0 : Nat} {w : World} {v : Value} {d : List α} {x : α} {n : Nat} {xs : List Value} (h : w.ownsRow n0 K.T K.k v n xs) (hn : n = d.length + 1) (hx : xs = K.cells d ++ K.cells [x]) : K.Own n0 w v (d ++ [x]) := by
  subst hn hx
  unfold Kind.Own
  rw [K.cells_append, List.length_append]
  exact h

end Go.Proofs.YtjehjjpdicimhaaGreat

/-
  Versions in memory (stage 6), and the reference's SameVersion, SameVersions.
-/
namespace Go.Proofs.YtjehjjpdicimhaaGreat
open Go.RowKit

/-- A version as it lies in memory: its value's slice, and the fields there. -/
structure Vx where
  num : Int
  stamp : Int
  tick : Int
  live : Bool
  p : Option Addr
  cap : Nat
  o : List Fx
  deriving Inhabited

def Vx.sl (x : Vx) : Value := .slice x.p x.o.length x.cap
def Vx.ver (x : Vx) : Vr := ⟨x.num, x.stamp, x.tick, x.live, x.o.map Fx.fld⟩
def Vx.at (w : World) (x : Vx) : Prop := IsXs w x.sl x.o
def encVx (x : Vx) : List Value := [.int .i64 x.num, .int .u64 x.stamp, .int .i64 x.tick, .bool x.live, x.sl]
def KV : Kind Vx := ⟨51, 5, encVx, fun _ => rfl, by decide, fun x u hu => by simp [encVx, Vx.sl] at hu; rcases hu with rfl | rfl | rfl | rfl | rfl <;> rfl⟩

theorem kv_at {w : World} {b off : Nat} {d : List Vx} (h : KV.At w b off d) (i : Nat) (hi : i < d.length) :
    w.cell? ⟨b, off + i * 5, none⟩ = some (.int .i64 (d[i]).num) ∧ w.cell? ⟨b, off + i * 5 + 1, none⟩ = some (.int .u64 (d[i]).stamp) ∧ w.cell? ⟨b, off + i * 5 + 2, none⟩ = some (.int .i64 (d[i]).tick) ∧ w.cell? ⟨b, off + i * 5 + 3, none⟩ = some (.bool (d[i]).live) ∧ w.cell? ⟨b, off + i * 5 + 4, none⟩ = some (d[i]).sl :=
  ⟨h i hi 0 _ rfl, h i hi 1 _ rfl, h i hi 2 _ rfl, h i hi 3 _ rfl, h i hi 4 _ rfl⟩

theorem ver_eq {x y : Vx} : x.ver = y.ver ↔ x.num = y.num ∧ x.stamp = y.stamp ∧ x.tick = y.tick ∧ x.live = y.live ∧ x.o.map Fx.fld = y.o.map Fx.fld := by
  unfold Vx.ver
  simp only [Vr.mk.injEq]

set_option maxHeartbeats 2000000 in
set_option maxRecDepth 100000 in
theorem sameV_any (x y : Vx) (w : World) (hx : x.at w) (hy : y.at w) (hf : FitX x.o) (hg : FitX y.o) :
    Calls Tryz.prog 45 #[.agg (encVx x).toArray, .agg (encVx y).toArray] w fun e w' => e = .returned (.bool (decide (x.ver = y.ver))) ∧ Below w.heap.size w w' := by
  have HSF : Hid (∀ W, Below w.heap.size w W → Calls Tryz.prog 14 #[x.sl, y.sl] W fun r w' => r = .returned (.bool (decide (x.o.map Fx.fld = y.o.map Fx.fld))) ∧ ∃ n, w' = W.drewN n) := fun W hW => sameF_any x.sl y.sl x.o y.o W (hx.kept hW) (hy.kept hW) hf hg
  have HV := hid (ver_eq (x := x) (y := y))
  obtain ⟨r, hr⟩ : ∃ r, decide (x.ver = y.ver) = r := ⟨_, rfl⟩
  rw [hr]
  have HR := hid hr
  have HBX : Hid (Below w.heap.size w ((w.alloc (.cells (encVx x).toArray 51)).alloc (.cells (encVx y).toArray 51))) := ((Below.refl _ _).alloc (Nat.le_refl _) _).alloc (by simp) _
  obtain ⟨xn, xs, xt, xl, xp, xc, xo⟩ := x
  obtain ⟨yn, ys, yt, yl, yp, yc, yo⟩ := y
  simp only [encVx, Vx.sl] at HSF HBX HV ⊢
  clear hx hy hf hg hr
  have no : ¬ (xn = yn ∧ xs = ys ∧ xt = yt ∧ xl = yl ∧ xo.map Fx.fld = yo.map Fx.fld) → r = false := fun h => by rw [← HR.out]; exact decide_eq_false fun e => h (HV.out.1 e)
  have NO := hid no
  clear no
  show Calls Tryz.prog 45 #[.agg #[.int .i64 xn, .int .u64 xs, .int .i64 xt, .bool xl, .slice xp xo.length xc], .agg #[.int .i64 yn, .int .u64 ys, .int .i64 yt, .bool yl, .slice yp yo.length yc]] w _
  by_cases h1 : xn = yn
  · by_cases h2 : xs = ys
    · by_cases h3 : xt = yt
      · by_cases h4 : xl = yl
        · have HEQ : Hid (r = decide (xo.map Fx.fld = yo.map Fx.fld)) := by
            show _ = _
            rw [← HR.out, decide_eq_decide]
            rw [HV.out]
            exact ⟨fun h => h.2.2.2.2, fun h => ⟨h1, h2, h3, h4, h⟩⟩
          subst h1 h2 h3 h4
          have HC := hid (HSF.out _ HBX.out)
          clear NO HV HR HSF
          obtain ⟨Q, hQ⟩ : ∃ Q, decide (xo.map Fx.fld = yo.map Fx.fld) = Q := ⟨_, rfl⟩
          rw [hQ] at HC HEQ
          clear hQ
          cases xl
          all_goals
            go_enter Tryz.func45, Tryz.ntmps45
            go_wp2_with fail
            refine HC.out.mono ?_
            rintro e w1 ⟨rfl, n1, rfl⟩
            go_wp2_with fail
            go_ret
            exact ⟨ret_bool HEQ.out.symm, bel_drewN HBX.out n1⟩
        · have HN := hid (NO.out fun h => h4 h.2.2.2.1)
          subst h1 h2 h3
          have h4' : (xl == yl) = false := by simpa using h4
          clear NO HV HR HSF h4
          go_enter Tryz.func45, Tryz.ntmps45
          go_wp2_with fail
          go_ret
          exact ⟨ret_bool HN.out.symm, HBX.out⟩
      · have HN := hid (NO.out fun h => h3 h.2.2.1)
        subst h1 h2
        have h3' : (xt == yt) = false := by simpa using h3
        clear NO HV HR HSF h3
        go_enter Tryz.func45, Tryz.ntmps45
        go_wp2_with fail
        go_ret
        exact ⟨ret_bool HN.out.symm, HBX.out⟩
    · have HN := hid (NO.out fun h => h2 h.2.1)
      subst h1
      have h2' : (xs == ys) = false := by simpa using h2
      clear NO HV HR HSF h2
      go_enter Tryz.func45, Tryz.ntmps45
      go_wp2_with fail
      go_ret
      exact ⟨ret_bool HN.out.symm, HBX.out⟩
  · have HN := hid (NO.out fun h => h1 h.1)
    have h1' : (xn == yn) = false := by simpa using h1
    clear NO HV HR HSF h1
    go_enter Tryz.func45, Tryz.ntmps45
    go_wp2_with fail
    go_ret
    exact ⟨ret_bool HN.out.symm, HBX.out⟩

/-- The cells of a version, from a on in block b. -/
def CellsV (w : World) (b a : Nat) (x : Vx) : Prop := w.cell? ⟨b, a, none⟩ = some (.int .i64 x.num) ∧ w.cell? ⟨b, a + 1, none⟩ = some (.int .u64 x.stamp) ∧ w.cell? ⟨b, a + 2, none⟩ = some (.int .i64 x.tick) ∧ w.cell? ⟨b, a + 3, none⟩ = some (.bool x.live) ∧ w.cell? ⟨b, a + 4, none⟩ = some x.sl

end Go.Proofs.YtjehjjpdicimhaaGreat

/-
  The reference's chain in memory (stage 6): At.
-/
namespace Go.Proofs.YtjehjjpdicimhaaGreat
open Go.RowKit

def zeroVx : Vx := ⟨0, 0, 0, false, none, 0, []⟩

/-- A chain of the reference in block g: all that was put, and how many of the first ones are gone. -/
structure RefC (w : World) (g : Nat) (d : List Vx) (gone : Nat) (vs : Value) : Prop where
  put : w.cell? ⟨g, 0, none⟩ = some vs
  gn : w.cell? ⟨g, 1, none⟩ = some (.int .i64 gone)
  f0 : w.frozen? ⟨g, 0, none⟩ = false
  f1 : w.frozen? ⟨g, 1, none⟩ = false
  is : KV.Is w vs d
  each : ∀ x ∈ d, x.at w ∧ FitX x.o
  le : gone ≤ d.length
  few : d.length ≤ 2400000000000
  far : ∀ W, w.grownBy W (some g) → KV.Is W vs d ∧ ∀ x ∈ d, x.at W

theorem cell_kept {w : World} {a : Addr} {v : Value} (o : Obj) (h : w.cell? a = some v) : (w.alloc o).cell? a = some v := (((Below.refl w.heap.size w).alloc (Nat.le_refl _) o).cell (cell_block h)).trans h

/-- What is visible at t, of the versions l. -/
def AnsX (l : List Vx) (t : Int) (x : Vx) (b : Bool) : Prop :=
  (b = true ∧ cutV (l.map Vx.ver) t ≠ 0 ∧ l[cutV (l.map Vx.ver) t - 1]? = some x) ∨ (b = false ∧ cutV (l.map Vx.ver) t = 0 ∧ x = zeroVx)

theorem ansX_none {d : List Vx} {gone : Nat} {t : Int} (hr : RiseV (d.map Vx.ver)) (h : ∀ j, (hj : j < d.length) → gone ≤ j → t < (d[j]).stamp) : AnsX (d.drop gone) t zeroVx false := by
  refine Or.inr ⟨rfl, ?_, rfl⟩
  rw [List.map_drop]
  refine cutV_uniq (rise_drop hr gone) (Nat.zero_le _) (fun i _ hi => by omega) (fun i hi _ => ?_)
  rw [List.length_drop, List.length_map] at hi
  rw [List.getElem_drop, List.getElem_map]
  exact h (gone + i) (by omega) (by omega)

theorem ansX_some {d : List Vx} {gone k : Nat} {t : Int} (hr : RiseV (d.map Vx.ver)) (hk : k < d.length) (hg : gone ≤ k) (hs : (d[k]).stamp ≤ t) (h : ∀ j, (hj : j < d.length) → k + 1 ≤ j → t < (d[j]).stamp) : AnsX (d.drop gone) t d[k] true := by
  have hc : cutV ((d.drop gone).map Vx.ver) t = k + 1 - gone := by
    rw [List.map_drop]
    refine cutV_uniq (rise_drop hr gone) (by rw [List.length_drop, List.length_map]; omega) (fun i hi hik => ?_) (fun i hi hik => ?_)
    · rw [List.length_drop, List.length_map] at hi
      rw [List.getElem_drop, List.getElem_map]
      show (d[gone + i]).stamp ≤ t
      rcases Nat.lt_or_ge (gone + i) k with hlt | hge
      · have := rise_lt hr hlt (by rw [List.length_map]; exact hk)
        rw [List.getElem_map, List.getElem_map] at this
        have this' : (d[gone + i]).stamp < (d[k]).stamp := this
        omega
      · have e : gone + i = k := by omega
        simp only [e]
        exact hs
    · rw [List.length_drop, List.length_map] at hi
      rw [List.getElem_drop, List.getElem_map]
      exact h (gone + i) (by omega) (by omega)
  refine Or.inl ⟨rfl, by rw [hc]; omega, ?_⟩
  rw [hc, List.getElem?_drop, show gone + (k + 1 - gone - 1) = k by omega, List.getElem?_eq_getElem hk]

/-- What At leaves. -/
def AtPost (w : World) (l : List Vx) (t : Int) (e : Ending) (w' : World) : Prop := (∃ x b, e = .returned (.tuple #[.agg (encVx x).toArray, .bool b]) ∧ AnsX l t x b) ∧ Below w.heap.size w w'

/-- What Number leaves. -/
def NumPost (w : World) (d : List Vx) (gone : Nat) (n : Int) (e : Ending) (w' : World) : Prop :=
  (∃ x b, e = .returned (.tuple #[.agg (encVx x).toArray, .bool b]) ∧ ((b = true ∧ ∃ k : Nat, n = (k : Int) + 1 ∧ gone ≤ k ∧ d[k]? = some x) ∨ (b = false ∧ (n ≤ gone ∨ (d.length : Int) < n) ∧ x = zeroVx))) ∧ Below w.heap.size w w'

end Go.Proofs.YtjehjjpdicimhaaGreat

/-
  The reference's chain (stage 6): Since.
-/
namespace Go.Proofs.YtjehjjpdicimhaaGreat
open Go.RowKit

theorem Tryz.infoVer : (Tryz.prog.info? 51).map (fun i => (i.zero, i.size, i.bytes)) = some (some (.agg #[.int .i64 0, .int .u64 0, .int .i64 0, .bool false, .slice none 0 0]), 5, 56) := by kernel_rfl

def sinceX (l : List Vx) (t : Int) : List Vx := l.filter fun x => decide (t < x.stamp)

/-- Where the stamps rise, those above t are the rest. -/
theorem sinceX_drop : ∀ (l : List Vx) (t : Int), RiseV (l.map Vx.ver) → sinceX l t = l.drop (cutV (l.map Vx.ver) t)
  | [], _, _ => by simp [sinceX]
  | x :: l, t, hr => by
    rw [List.map_cons] at hr
    obtain ⟨h1, h2⟩ := List.pairwise_cons.1 hr
    rw [List.map_cons, cutV_cons]
    unfold sinceX
    by_cases h : x.ver.stamp ≤ t
    · rw [if_pos h, List.drop_succ_cons, ← sinceX_drop l t h2, List.filter_cons_of_neg (by have h' : x.stamp ≤ t := h; simpa using h')]
      rfl
    · rw [if_neg h, List.drop_zero]
      refine List.filter_eq_self.2 fun y hy => ?_
      rcases List.mem_cons.1 hy with rfl | hy
      · have h' : ¬ y.stamp ≤ t := h
        simpa using h'
      · have := h1 y.ver (List.mem_map.2 ⟨y, hy, rfl⟩)
        have h' : t < x.ver.stamp := Int.not_le.1 h
        have e : y.ver.stamp = y.stamp := rfl
        simp only [decide_eq_true_eq]
        omega

end Go.Proofs.YtjehjjpdicimhaaGreat

/-
  The reference's chain (stage 6): Last, All.
-/
namespace Go.Proofs.YtjehjjpdicimhaaGreat
open Go.RowKit

theorem grown_below {w W : World} (hb : Below w.heap.size w W) (ob : Option Nat) : w.grownBy W ob := ⟨hb.os, hb.tape, hb.output, hb.size, fun k hk _ => hb.block k hk⟩

theorem grown_two {w1 w2 w3 : World} {ob : Option Nat} (h : w1.grownBy w2 ob) (k : w2.grownBy w3 ob) : w1.grownBy w3 ob :=
  ⟨k.os.trans h.os, k.tape.trans h.tape, k.output.trans h.output, Nat.le_trans h.size k.size, fun j hj hn => (k.block j (Nat.lt_of_lt_of_le hj h.size) hn).trans (h.block j hj hn)⟩

theorem RefC.on {w W : World} {g gone : Nat} {d : List Vx} {vs : Value} (h : RefC w g d gone vs) (hb : Below w.heap.size w W) : RefC W g d gone vs := by
  have hlt : g < w.heap.size := cell_block h.put
  refine ⟨(hb.cell (p := ⟨g, 0, none⟩) hlt).trans h.put, (hb.cell (p := ⟨g, 1, none⟩) hlt).trans h.gn, ?_, ?_, Kind.is_kept h.is hb, fun x hx => ⟨(h.each x hx).1.kept hb, (h.each x hx).2⟩, h.le, h.few, fun W2 h2 => h.far W2 (grown_two (grown_below hb _) h2)⟩
  · have := h.f0
    unfold World.frozen? at this ⊢
    rw [hb.block g hlt]
    exact this
  · have := h.f1
    unfold World.frozen? at this ⊢
    rw [hb.block g hlt]
    exact this

theorem kv_drop {w : World} {b off : Nat} {d : List Vx} (m : Nat) (h : KV.At w b off d) : KV.At w b (off + m * 5) (d.drop m) := fun i hi j u hu => by
  rw [List.length_drop] at hi
  have hu' : (KV.enc (d[m + i]'(by omega)))[j]? = some u := by rw [List.getElem_drop] at hu; exact hu
  have := h (m + i) (by omega) j u hu'
  have e : off + (m + i) * KV.k + j = off + m * 5 + i * KV.k + j := by rw [Nat.add_mul]; show off + (m * 5 + i * 5) + j = _; show _ = off + m * 5 + i * 5 + j; omega
  rwa [e] at this

theorem ansX_num {d : List Vx} {gone : Nat} {t : Int} {x : Vx} (hn : ∀ k, (h : k < d.length) → (d[k]).num = (k : Int) + 1) (hle : gone ≤ d.length) (h : AnsX (d.drop gone) t x true) :
    cutV ((d.drop gone).map Vx.ver) t ≠ 0 ∧ gone + cutV ((d.drop gone).map Vx.ver) t ≤ d.length ∧ x.num = (gone : Int) + cutV ((d.drop gone).map Vx.ver) t := by
  rcases h with ⟨_, h1, h2⟩ | ⟨h, _⟩
  · have hc := cutV_le ((d.drop gone).map Vx.ver) t
    rw [List.length_map, List.length_drop] at hc
    rw [List.getElem?_drop] at h2
    obtain ⟨hlt, he⟩ := List.getElem?_eq_some_iff.1 h2
    refine ⟨h1, by omega, ?_⟩
    rw [← he, hn _ hlt]
    omega
  · cases h

theorem RefC.set {w : World} {g gone : Nat} {d : List Vx} {vs : Value} (h : RefC w g d gone vs) (m : Nat) (hm : m ≤ d.length) : RefC (w.setCell ⟨g, 1, none⟩ (.int .i64 m)) g d m vs := by
  have hg : w.grownBy (w.setCell ⟨g, 1, none⟩ (.int .i64 m)) (some g) := grown_set w g 1 _
  have c0 := h.put
  have c1 := h.gn
  have f0 := h.f0
  have f1 := h.f1
  refine ⟨by simp [go_sem, c0], by simp [go_sem, c1], by simp [go_sem, f0], by simp [go_sem, f1], (h.far _ hg).1, fun x hx => ⟨(h.far _ hg).2 x hx, (h.each x hx).2⟩, hm, h.few, fun W2 h2 => h.far W2 (grown_two hg h2)⟩

/-- What Prune leaves. -/
def PrunePost (w : World) (g : Nat) (d : List Vx) (gone : Nat) (vs : Value) (f : Int) (e : Ending) (w' : World) : Prop :=
  ∃ n : Nat, e = .returned (.int .i64 n) ∧ n = pruneN ((d.drop gone).map Vx.ver) f ∧ RefC w' g d (gone + n) vs ∧ w.grownBy w' (some g)

end Go.Proofs.YtjehjjpdicimhaaGreat

/-
  Frames: which blocks have turned; and what of the rest stays.
-/
namespace Go.Proofs.YtjehjjpdicimhaaGreat
open Go.RowKit

theorem own_same {w w' : World} {n0 : Nat} {e : TypeId} {size : Nat} {v : Value} {n : Nat} {xs : List Value} (h : w.ownsRow n0 e size v n xs) (hk : ∀ k, v.ownBlock = some k → w'.heap[k]? = w.heap[k]?) : w'.ownsRow n0 e size v n xs := by
  refine ⟨h.1, ?_⟩
  rcases h.2 with h2 | ⟨g, cap, cur, hv, h3, h4, h5⟩
  · exact Or.inl h2
  · exact Or.inr ⟨g, cap, cur, hv, h3, (hk g (by rw [hv]; rfl)).trans h4, h5⟩

/-- Only blocks of P, and new ones, have turned. -/
structure Fr (P : Nat → Prop) (w W : World) : Prop where
  os : W.os = w.os
  tape : W.tape = w.tape
  output : W.output = w.output
  size : w.heap.size ≤ W.heap.size
  block : ∀ k, k < w.heap.size → ¬ P k → W.heap[k]? = w.heap[k]?

theorem Fr.refl (P : Nat → Prop) (w : World) : Fr P w w := ⟨rfl, rfl, rfl, Nat.le_refl _, fun _ _ _ => rfl⟩
theorem Fr.draws {P : Nat → Prop} {w W : World} (h : Fr P w W) (n : Nat) : Fr P w (W.drewN n) := ⟨h.os, h.tape, h.output, h.size, h.block⟩

theorem Fr.then {P Q : Nat → Prop} {a b c : World} (h : Fr P a b) (k : Fr Q b c) (hQ : ∀ k, Q k → P k ∨ a.heap.size ≤ k) : Fr P a c :=
  ⟨k.os.trans h.os, k.tape.trans h.tape, k.output.trans h.output, Nat.le_trans h.size k.size, fun j hj hn => (k.block j (Nat.lt_of_lt_of_le hj h.size) fun hq => by
    rcases hQ j hq with h1 | h1
    · exact hn h1
    · omega).trans (h.block j hj hn)⟩

theorem Fr.mono {P Q : Nat → Prop} {w W : World} (h : Fr P w W) (hPQ : ∀ k, P k → Q k) : Fr Q w W := ⟨h.os, h.tape, h.output, h.size, fun k hk hn => h.block k hk fun hp => hn (hPQ k hp)⟩
theorem Fr.of_below {P : Nat → Prop} {w W : World} (h : Below w.heap.size w W) : Fr P w W := ⟨h.os, h.tape, h.output, h.size, fun k hk _ => h.block k hk⟩
theorem Fr.of_grown {P : Nat → Prop} {w W : World} {ob : Option Nat} (h : w.grownBy W ob) (hP : ∀ k, ob = some k → P k) : Fr P w W :=
  ⟨h.os, h.tape, h.output, h.size, fun k hk hn => h.block k hk fun e => hn (hP k e.symm)⟩
theorem Fr.below {P : Nat → Prop} {w W : World} (h : Fr P w W) {N : Nat} (hN : N ≤ w.heap.size) (hP : ∀ k, P k → N ≤ k) : Below N w W :=
  ⟨h.os, h.tape, h.output, h.size, fun k hk => h.block k (by omega) fun hp => by have := hP k hp; omega⟩

theorem Fr.row {P : Nat → Prop} {w W : World} {n0 : Nat} {e : TypeId} {size : Nat} {v : Value} {n : Nat} {xs : List Value} (f : Fr P w W) (h : w.ownsRow n0 e size v n xs) (hP : ∀ k, v.ownBlock = some k → ¬ P k) : W.ownsRow n0 e size v n xs :=
  own_same h fun k hk => f.block k (World.ownsRow.lt h k hk).2 (hP k hk)

theorem Fr.cell {P : Nat → Prop} {w W : World} {a : Addr} {v : Value} (f : Fr P w W) (h : w.cell? a = some v) (hP : ¬ P a.block) : W.cell? a = some v :=
  (World.cell?_of_block (f.block a.block (cell_block h) hP)).trans h

end Go.Proofs.YtjehjjpdicimhaaGreat

/-
  The plain mathematics of a stable sort: parts that change places, and equals that keep their order.
-/
namespace Go.Proofs.YtjehjjpdicimhaaGreat
open Go.Sort
set_option linter.unusedSectionVars false
variable {α : Type} [Inhabited α] {κ : Type} [DecidableEq κ]

/-- Equals keep their order. -/
def Stab (K : α → κ) (d d' : Array α) : Prop := ∀ c, d'.toList.filter (fun x => decide (K x = c)) = d.toList.filter (fun x => decide (K x = c))

theorem Stab.refl (K : α → κ) (d : Array α) : Stab K d d := fun _ => rfl
theorem Stab.trans {K : α → κ} {d d' d'' : Array α} (h : Stab K d d') (h' : Stab K d' d'') : Stab K d d'' := fun c => (h' c).trans (h c)

/-- The parts s to m and m to e have changed places. -/
def Rot (s m e : Nat) (d d' : Array α) : Prop :=
  d'.size = d.size ∧ (∀ t, t < e - m → d'[s + t]! = d[m + t]!) ∧ (∀ t, t < m - s → d'[s + (e - m) + t]! = d[s + t]!) ∧ (∀ i, i < s ∨ e ≤ i → d'[i]! = d[i]!)

theorem toList_range (d : Array α) : d.toList = (List.range' 0 d.size).map (fun i => d[i]!) := by
  have h := extract_toList d 0 d.size (Nat.le_refl _)
  rw [Array.extract_size, Nat.sub_zero] at h
  exact h

theorem range'_cut (s k l : Nat) : List.range' s (k + l) = List.range' s k ++ List.range' (s + k) l := by
  rw [← List.range'_append_1]

theorem map_range'_shift (f g : Nat → α) (s s' n : Nat) (h : ∀ t, t < n → f (s + t) = g (s' + t)) : (List.range' s n).map f = (List.range' s' n).map g := by
  apply List.ext_getElem
  · simp
  · intro i h1 h2
    simp only [List.length_map, List.length_range'] at h1
    simp only [List.getElem_map, List.getElem_range', Nat.one_mul]
    exact h i h1

theorem Rot.parts {s m e : Nat} {d d' : Array α} (h : Rot s m e d d') (hsm : s ≤ m) (hme : m ≤ e) (he : e ≤ d.size) :
    ∃ A L R B : List α, d.toList = A ++ L ++ R ++ B ∧ d'.toList = A ++ R ++ L ++ B ∧ L = (List.range' s (m - s)).map (fun i => d[i]!) ∧ R = (List.range' m (e - m)).map (fun i => d[i]!) := by
  obtain ⟨hz, h1, h2, h3⟩ := h
  refine ⟨(List.range' 0 s).map (fun i => d[i]!), _, _, (List.range' e (d.size - e)).map (fun i => d[i]!), ?_, ?_, rfl, rfl⟩
  · rw [toList_range]
    have e1 : d.size = s + (m - s) + (e - m) + (d.size - e) := by omega
    conv => lhs; rw [e1]
    rw [range'_cut, range'_cut, range'_cut]
    simp only [List.map_append]
    rw [show 0 + s = s by omega, show 0 + (s + (m - s)) = m by omega, show 0 + (s + (m - s) + (e - m)) = e by omega]
  · rw [toList_range, hz]
    have e1 : d.size = s + (e - m) + (m - s) + (d.size - e) := by omega
    conv => lhs; rw [e1]
    rw [range'_cut, range'_cut, range'_cut]
    simp only [List.map_append]
    rw [show 0 + s = s by omega, show 0 + (s + (e - m)) = s + (e - m) by omega, show 0 + (s + (e - m) + (m - s)) = e by omega]
    congr 1
    · congr 1
      · congr 1
        · exact map_range'_shift _ _ 0 0 s (fun t ht => h3 _ (Or.inl (by omega)))
        · exact map_range'_shift _ _ _ _ _ (fun t ht => h1 t ht)
      · exact map_range'_shift _ _ _ _ _ (fun t ht => h2 t ht)
    · exact map_range'_shift _ _ _ _ _ (fun t ht => h3 _ (Or.inr (by omega)))

theorem Rot.stab {K : α → κ} {s m e : Nat} {d d' : Array α} (h : Rot s m e d d') (hsm : s ≤ m) (hme : m ≤ e) (he : e ≤ d.size)
    (hK : ∀ i j, s ≤ i → i < m → m ≤ j → j < e → K d[i]! ≠ K d[j]!) : Stab K d d' := by
  obtain ⟨A, L, R, B, e1, e2, hL, hR⟩ := h.parts hsm hme he
  intro c
  rw [e1, e2]
  simp only [List.filter_append]
  have : L.filter (fun x => decide (K x = c)) = [] ∨ R.filter (fun x => decide (K x = c)) = [] := by
    rcases hl : L.filter (fun x => decide (K x = c)) with _ | ⟨x, l⟩
    · exact Or.inl rfl
    · right
      have hx : x ∈ L.filter (fun x => decide (K x = c)) := by rw [hl]; simp
      rw [List.filter_eq_nil_iff]
      intro y hy hyc
      simp only [decide_eq_true_eq] at hyc
      obtain ⟨hx1, hx2⟩ := List.mem_filter.1 hx
      simp only [decide_eq_true_eq] at hx2
      rw [hL, List.mem_map] at hx1
      rw [hR, List.mem_map] at hy
      obtain ⟨i, hi, rfl⟩ := hx1
      obtain ⟨j, hj, rfl⟩ := hy
      rw [List.mem_range'_1] at hi hj
      exact hK i j (by omega) (by omega) (by omega) (by omega) (hx2.trans hyc.symm)
  rcases this with h0 | h0 <;> rw [h0] <;> simp

theorem Rot.perm {s m e : Nat} {d d' : Array α} (h : Rot s m e d d') (hsm : s ≤ m) (hme : m ≤ e) (he : e ≤ d.size) : PermIn s e d d' := by
  obtain ⟨hz, h1, h2, h3⟩ := h
  refine ⟨hz, h3, ?_⟩
  rw [extract_toList _ _ _ (by omega), extract_toList _ _ _ he]
  have e1 : e - s = (m - s) + (e - m) := by omega
  have e2 : e - s = (e - m) + (m - s) := by omega
  conv => lhs; rw [e2]
  conv => rhs; rw [e1]
  rw [range'_cut, range'_cut]
  simp only [List.map_append]
  rw [map_range'_shift (fun i => d'[i]!) (fun i => d[i]!) s m (e - m) (fun t ht => h1 t ht), map_range'_shift (fun i => d'[i]!) (fun i => d[i]!) (s + (e - m)) s (m - s) (fun t ht => h2 t ht), show s + (m - s) = m by omega]
  exact List.perm_append_comm

/-- An exchange of neighbours is such a change of places. -/
theorem rot_swp (d : Array α) (j : Nat) (h : j + 1 < d.size) : Rot j (j + 1) (j + 2) d (swp d (j + 1) j) := by
  refine ⟨size_swp _ _ _, fun t ht => ?_, fun t ht => ?_, fun i hi => ?_⟩
  · obtain rfl : t = 0 := by omega
    exact swp_right d (j + 1) j (by omega)
  · obtain rfl : t = 0 := by omega
    rw [show j + (j + 2 - (j + 1)) + 0 = j + 1 by omega]
    exact swp_left d (j + 1) j h (by omega)
  · exact swp_other d (j + 1) j i (by omega) (by omega)

theorem swp_comm (d : Array α) (i j : Nat) : swp d i j = swp d j i := by
  rcases Nat.lt_trichotomy i j with h | h | h
  · unfold swp; rw [Array.setIfInBounds_comm _ _ (by omega)]
  · rw [h]
  · unfold swp; rw [Array.setIfInBounds_comm _ _ (by omega)]

/-- The insertion sort keeps the order of equals. -/
theorem insInner_stab {K : α → κ} {lt : α → α → Bool} (hK : ∀ x y, lt x y = true → K x ≠ K y) (a : Nat) : ∀ (j : Nat) (d : Array α), j < d.size → Stab K d (insInner lt a j d)
  | 0, d, _ => Stab.refl K d
  | j + 1, d, hj => by
    unfold insInner
    split
    · rename_i hc
      simp only [Bool.and_eq_true, decide_eq_true_eq] at hc
      refine Stab.trans ((rot_swp d j hj).stab (by omega) (by omega) (by omega) fun i i' h1 h2 h3 h4 => ?_) (insInner_stab hK a j _ (by rw [size_swp]; omega))
      obtain rfl : i = j := by omega
      obtain rfl : i' = i + 1 := by omega
      exact fun e => hK _ _ hc.2 e.symm
    · exact Stab.refl K d

theorem insInner_size {lt : α → α → Bool} (a : Nat) : ∀ (j : Nat) (d : Array α), (insInner lt a j d).size = d.size
  | 0, d => rfl
  | j + 1, d => by
    unfold insInner
    split
    · rw [insInner_size a j, size_swp]
    · rfl

theorem insOuter_stab {K : α → κ} {lt : α → α → Bool} (hK : ∀ x y, lt x y = true → K x ≠ K y) (a b : Nat) : ∀ (n i : Nat) (d : Array α), b - i ≤ n → b ≤ d.size → Stab K d (insOuter lt a b i d)
  | 0, i, d, hn, hb => by
    unfold insOuter
    rw [if_neg (by omega)]
    exact Stab.refl K d
  | n + 1, i, d, hn, hb => by
    unfold insOuter
    split
    · exact (insInner_stab hK a i d (by omega)).trans (insOuter_stab hK a b n (i + 1) _ (by omega) (by rw [insInner_size]; exact hb))
    · exact Stab.refl K d

theorem insertionSort_stab {K : α → κ} {lt : α → α → Bool} (hK : ∀ x y, lt x y = true → K x ≠ K y) (d : Array α) (a b : Nat) (hb : b ≤ d.size) : Stab K d (insertionSort lt d a b) :=
  insOuter_stab hK a b _ _ d (Nat.le_refl _) hb

/-- One step of the rotation, the left part longer. -/
theorem Rot.left {s m e j : Nat} {d dk d' : Array α} (hsm : s ≤ m) (hme : m ≤ e) (hj : j = e - m) (hij : j ≤ m - s) (hz : dk.size = d.size) (h1 : ∀ t, t < j → dk[s + t]! = d[m + t]!) (h2 : ∀ t, t < j → dk[m + t]! = d[s + t]!)
    (h3 : ∀ i, (i < s ∨ s + j ≤ i) → (i < m ∨ m + j ≤ i) → dk[i]! = d[i]!) (h : Rot (s + j) m e dk d') : Rot s m e d d' := by
  obtain ⟨k1, k2, k3, k4⟩ := h
  refine ⟨k1.trans hz, fun t ht => ?_, fun t ht => ?_, fun i hi => ?_⟩
  · rw [k4 _ (Or.inl (by omega))]; exact h1 t (by omega)
  · by_cases hlt : t < j
    · have := k2 t (by omega)
      rw [show s + (e - m) + t = s + j + t by omega, this]
      exact h2 t hlt
    · have := k3 (t - j) (by omega)
      rw [show s + (e - m) + t = s + j + (e - m) + (t - j) by omega, this, h3 _ (by omega) (by omega)]
      congr 1; omega
  · rw [k4 _ (by omega), h3 _ (by omega) (by omega)]

/-- One step of the rotation, the right part longer. -/
theorem Rot.right {s m e i : Nat} {d dk d' : Array α} (hsm : s ≤ m) (hme : m ≤ e) (hi : i = m - s) (hij : i ≤ e - m) (hz : dk.size = d.size) (h1 : ∀ t, t < i → dk[s + t]! = d[e - i + t]!) (h2 : ∀ t, t < i → dk[e - i + t]! = d[s + t]!)
    (h3 : ∀ x, (x < s ∨ s + i ≤ x) → (x < e - i ∨ e ≤ x) → dk[x]! = d[x]!) (h : Rot s m (e - i) dk d') : Rot s m e d d' := by
  obtain ⟨k1, k2, k3, k4⟩ := h
  refine ⟨k1.trans hz, fun t ht => ?_, fun t ht => ?_, fun x hx => ?_⟩
  · by_cases hlt : t < e - i - m
    · rw [k2 t hlt, h3 _ (by omega) (by omega)]
    · have := k3 (t - (e - i - m)) (by omega)
      rw [show s + t = s + (e - i - m) + (t - (e - i - m)) by omega, this, h1 _ (by omega)]
      congr 1; omega
  · rw [k4 _ (by omega), show s + (e - m) + t = e - i + t by omega]
    exact h2 t (by omega)
  · rw [k4 _ (by omega), h3 _ (by omega) (by omega)]

/-- The rotation's last step: both parts are as long. -/
theorem Rot.even {s m e i : Nat} {d d' : Array α} (hi : i = m - s) (hsm : s ≤ m) (hme : m ≤ e) (hij : i = e - m) (hz : d'.size = d.size) (h1 : ∀ t, t < i → d'[s + t]! = d[m + t]!) (h2 : ∀ t, t < i → d'[m + t]! = d[s + t]!)
    (h3 : ∀ x, (x < s ∨ s + i ≤ x) → (x < m ∨ m + i ≤ x) → d'[x]! = d[x]!) : Rot s m e d d' :=
  ⟨hz, fun t ht => h1 t (by omega), fun t ht => by rw [show s + (e - m) + t = m + t by omega]; exact h2 t (by omega), fun x hx => h3 x (by omega) (by omega)⟩

end Go.Proofs.YtjehjjpdicimhaaGreat

/-
  The plain mathematics of a symmetric merge.
-/
namespace Go.Proofs.YtjehjjpdicimhaaGreat
open Go.Sort
set_option linter.unusedSectionVars false
variable {α : Type} [Inhabited α] {κ : Type} [DecidableEq κ]

/-- What a merge of the part a to b leaves. -/
def Mrg (lt : α → α → Bool) (K : α → κ) (a b : Nat) (d d' : Array α) : Prop := PermIn a b d d' ∧ SortedIn lt a b d' ∧ Stab K d d'

theorem SWO.le_le {lt : α → α → Bool} (hS : SWO lt) {x y z : α} (h1 : lt y x = false) (h2 : lt z y = false) : lt z x = false := hS.ntrans _ _ _ h2 h1

theorem SWO.lt_le {lt : α → α → Bool} (hS : SWO lt) {x y z : α} (h1 : lt x y = true) (h2 : lt z y = false) : lt x z = true := by
  cases h : lt x z
  · exact absurd (hS.ntrans _ _ _ h h2) (by rw [h1]; simp)
  · rfl

theorem SWO.le_lt {lt : α → α → Bool} (hS : SWO lt) {x y z : α} (h1 : lt y x = false) (h2 : lt y z = true) : lt x z = true := by
  cases h : lt x z
  · exact absurd (hS.ntrans _ _ _ h1 h) (by rw [h2]; simp)
  · rfl

theorem SortedIn.le {lt : α → α → Bool} (hS : SWO lt) {a b : Nat} {d : Array α} (h : SortedIn lt a b d) {i j : Nat} (h1 : a ≤ i) (h2 : i ≤ j) (h3 : j < b) : lt d[j]! d[i]! = false := by
  rcases Nat.eq_or_lt_of_le h2 with rfl | h4
  · exact hS.irrefl _
  · exact h i j h1 h4 h3

/-- One step of the first shift: the element of place a has come to place k. -/
theorem Rot.shift_up {a k : Nat} {d dk : Array α} (h : Rot a (a + 1) (k + 1) d dk) (hak : a ≤ k) (hk : k + 1 < d.size) : Rot a (a + 1) (k + 2) d (swp dk k (k + 1)) := by
  obtain ⟨h1, h2, h3, h4⟩ := h
  refine ⟨by rw [size_swp, h1], fun t ht => ?_, fun t ht => ?_, fun i hi => ?_⟩
  · by_cases hlt : t < k + 1 - (a + 1)
    · rw [swp_other _ _ _ _ (by omega) (by omega)]; exact h2 t hlt
    · rw [show a + t = k by omega, swp_left _ _ _ (by omega) (by omega), h4 _ (Or.inr (by omega))]; congr 1; omega
  · obtain rfl : t = 0 := by omega
    rw [show a + (k + 2 - (a + 1)) + 0 = k + 1 by omega, swp_right _ _ _ (by omega)]
    have := h3 0 (by omega)
    rw [show a + (k + 1 - (a + 1)) + 0 = k by omega] at this
    exact this
  · rw [swp_other _ _ _ _ (by omega) (by omega)]; exact h4 _ (by omega)

/-- One step of the second shift: the element of place m has come to place k + 1. -/
theorem Rot.shift_down {k m : Nat} {d dk : Array α} (h : Rot (k + 1) m (m + 1) d dk) (hkm : k + 1 ≤ m) (hm : m < d.size) : Rot k m (m + 1) d (swp dk (k + 1) k) := by
  obtain ⟨h1, h2, h3, h4⟩ := h
  refine ⟨by rw [size_swp, h1], fun t ht => ?_, fun t ht => ?_, fun i hi => ?_⟩
  · obtain rfl : t = 0 := by omega
    show (swp dk (k + 1) k)[k]! = d[m + 0]!
    rw [swp_right _ _ _ (by omega)]
    exact h2 0 (by omega)
  · by_cases h0 : t = 0
    · subst h0
      rw [show k + (m + 1 - m) + 0 = k + 1 by omega, swp_left _ _ _ (by omega) (by omega), h4 _ (Or.inl (by omega)), Nat.add_zero]
    · rw [swp_other _ _ _ _ (by omega) (by omega)]
      have := h3 (t - 1) (by omega)
      rw [show k + 1 + (m + 1 - m) + (t - 1) = k + (m + 1 - m) + t by omega] at this
      rw [this]; congr 1; omega
  · rw [swp_other _ _ _ _ (by omega) (by omega)]; exact h4 _ (by omega)

theorem rot_none (s m : Nat) (d : Array α) : Rot s m m d d := by
  refine ⟨rfl, fun t ht => by omega, fun t _ => by rw [show s + (m - m) + t = s + t by omega], fun _ _ => rfl⟩

theorem rot_none' (m e : Nat) (d : Array α) : Rot m m e d d := by
  refine ⟨rfl, fun t _ => rfl, fun t ht => by omega, fun _ _ => rfl⟩

/-- What the four parts of a rotation hold. -/
theorem Rot.at1 {s m e : Nat} {d d' : Array α} (h : Rot s m e d d') {p : Nat} (h1 : s ≤ p) (h2 : p < s + (e - m)) : d'[p]! = d[p + (m - s)]! ∨ m < s := by
  by_cases hms : m < s
  · exact Or.inr hms
  · left
    have := h.2.1 (p - s) (by omega)
    rw [show s + (p - s) = p by omega] at this
    rw [this]; congr 1; omega

theorem Rot.lo {s m e : Nat} {d d' : Array α} (h : Rot s m e d d') (hsm : s ≤ m) {p : Nat} (h1 : s ≤ p) (h2 : p < s + (e - m)) : d'[p]! = d[p + (m - s)]! := by
  rcases h.at1 h1 h2 with h | h
  · exact h
  · omega

theorem Rot.hi {s m e : Nat} {d d' : Array α} (h : Rot s m e d d') {p : Nat} (h1 : s + (e - m) ≤ p) (h2 : p < e) (hme : m ≤ e) : d'[p]! = d[p - (e - m)]! := by
  have := h.2.2.1 (p - (s + (e - m))) (by omega)
  rw [show s + (e - m) + (p - (s + (e - m))) = p by omega] at this
  rw [this]; congr 1; omega

theorem Rot.out {s m e : Nat} {d d' : Array α} (h : Rot s m e d d') {p : Nat} (h1 : p < s ∨ e ≤ p) : d'[p]! = d[p]! := h.2.2.2 p h1

/-- THE ROTATION OF A SYMMETRIC MERGE: all that lies in the lower half is no greater than what lies in the upper one. -/
theorem Rot.merge {lt : α → α → Bool} {K : α → κ} (hS : SWO lt) (hK : ∀ x y, lt x y = true → K x ≠ K y) {a s m e b : Nat} {d d1 : Array α} (h : Rot s m e d d1) (has : a ≤ s) (hsm : s ≤ m) (hme : m ≤ e) (heb : e ≤ b) (hb : b ≤ d.size)
    (hL : SortedIn lt a m d) (hR : SortedIn lt m b d)
    (hlow : a < s → e < b → lt d[e]! d[s - 1]! = false) (hhigh : s < m → m < e → lt d[e - 1]! d[s]! = true) :
    PermIn a b d d1 ∧ Stab K d d1 ∧ SortedIn lt a s d1 ∧ SortedIn lt s (s + (e - m)) d1 ∧ SortedIn lt (s + (e - m)) e d1 ∧ SortedIn lt e b d1 ∧
      (∀ p q, a ≤ p → p < s + (e - m) → s + (e - m) ≤ q → q < b → lt d1[q]! d1[p]! = false) := by
  have hx : ∀ i j, s ≤ i → i < m → m ≤ j → j < e → lt d[j]! d[i]! = true := fun i j h1 h2 h3 h4 => by
    have t := hhigh (by omega) (by omega)
    exact SWO.lt_le hS (SWO.le_lt hS (SortedIn.le hS hR h3 (show j ≤ e - 1 by omega) (by omega)) t) (SortedIn.le hS hL has h1 h2)
  have hy : ∀ i j, a ≤ i → i < s → e ≤ j → j < b → lt d[j]! d[i]! = false := fun i j h1 h2 h3 h4 => by
    have t := hlow (by omega) (by omega)
    exact SWO.le_le hS (SWO.le_le hS (SortedIn.le hS hL h1 (show i ≤ s - 1 by omega) (by omega)) t) (SortedIn.le hS hR hme h3 h4)
  refine ⟨permIn_mono _ _ _ _ _ _ has heb hb (h.perm hsm hme (by omega)), h.stab hsm hme (by omega) (fun i j h1 h2 h3 h4 e => hK _ _ (hx i j h1 h2 h3 h4) e.symm), fun i j h1 h2 h3 => ?_, fun i j h1 h2 h3 => ?_, fun i j h1 h2 h3 => ?_, fun i j h1 h2 h3 => ?_, fun p q h1 h2 h3 h4 => ?_⟩
  · rw [h.out (Or.inl (by omega)), h.out (Or.inl (by omega))]; exact hL i j h1 h2 (by omega)
  · rw [h.lo hsm (by omega) (by omega), h.lo hsm (by omega) (by omega)]; exact hR _ _ (by omega) (by omega) (by omega)
  · rw [h.hi (by omega) (by omega) hme, h.hi (by omega) (by omega) hme]; exact hL _ _ (by omega) (by omega) (by omega)
  · rw [h.out (Or.inr (by omega)), h.out (Or.inr (by omega))]; exact hR i j (by omega) h2 (by omega)
  · by_cases c1 : p < s
    · rw [h.out (p := p) (Or.inl c1)]
      by_cases c2 : q < e
      · rw [h.hi h3 c2 hme]; exact SortedIn.le hS hL h1 (by omega) (by omega)
      · rw [h.out (Or.inr (by omega))]; exact hy p q h1 c1 (by omega) h4
    · rw [h.lo (p := p) hsm (by omega) h2]
      by_cases c2 : q < e
      · rw [h.hi h3 c2 hme]; exact SWO.asymmA hS (hx _ _ (by omega) (by omega) (by omega) (by omega))
      · rw [h.out (Or.inr (by omega))]; exact SortedIn.le hS hR (by omega) (by omega) h4

/-- THE MERGE IS DONE: both halves are sorted, and nothing in the upper one is less than what is in the lower one. -/
theorem sorted_halves {lt : α → α → Bool} {a c b : Nat} {d1 d2 d3 : Array α} (hac : a ≤ c) (hcb : c ≤ b) (hb : b ≤ d1.size)
    (hX : ∀ p q, a ≤ p → p < c → c ≤ q → q < b → lt d1[q]! d1[p]! = false) (p2 : PermIn a c d1 d2) (s2 : SortedIn lt a c d2) (p3 : PermIn c b d2 d3) (s3 : SortedIn lt c b d3) :
    PermIn a b d1 d3 ∧ SortedIn lt a b d3 := by
  have z2 := p2.1
  have hX2 : ∀ q, c ≤ q → q < b → ∀ p, a ≤ p → p < c → lt d2[q]! d2[p]! = false := fun q h1 h2 => by
    rw [p2.2.1 q (Or.inr h1)]
    exact permIn_all d1 d2 a c (fun x => lt d1[q]! x = false) (by omega) p2 (fun p h3 h4 => hX p q h3 h4 h1 h2)
  have hX3 : ∀ p, a ≤ p → p < c → ∀ q, c ≤ q → q < b → lt d3[q]! d3[p]! = false := fun p h1 h2 => by
    rw [p3.2.1 p (Or.inl h2)]
    exact permIn_all d2 d3 c b (fun x => lt x d2[p]! = false) (by omega) p3 (fun q h3 h4 => hX2 q h3 h4 p h1 h2)
  refine ⟨permIn_trans _ _ _ _ _ (permIn_mono _ _ _ _ _ _ (Nat.le_refl _) hcb hb p2) (permIn_mono _ _ _ _ _ _ hac (Nat.le_refl _) (by omega) p3), fun i j h1 h2 h3 => ?_⟩
  by_cases c1 : i < c
  · by_cases c2 : j < c
    · rw [p3.2.1 i (Or.inl c1), p3.2.1 j (Or.inl c2)]; exact s2 i j h1 h2 c2
    · exact hX3 i h1 c1 j (by omega) h3
  · exact s3 i j (by omega) h2 h3

/-- The whole of a merge's general step. -/
theorem Mrg.of_rot {lt : α → α → Bool} {K : α → κ} (hS : SWO lt) (hK : ∀ x y, lt x y = true → K x ≠ K y) {a s m e b : Nat} {d d1 d2 d3 : Array α} (h : Rot s m e d d1) (has : a ≤ s) (hsm : s ≤ m) (hme : m ≤ e) (heb : e ≤ b) (hb : b ≤ d.size)
    (hL : SortedIn lt a m d) (hR : SortedIn lt m b d) (hlow : a < s → e < b → lt d[e]! d[s - 1]! = false) (hhigh : s < m → m < e → lt d[e - 1]! d[s]! = true)
    (m2 : Mrg lt K a (s + (e - m)) d1 d2) (m3 : Mrg lt K (s + (e - m)) b d2 d3) : Mrg lt K a b d d3 := by
  obtain ⟨p1, st1, _, _, _, _, hX⟩ := h.merge (K := K) hS hK has hsm hme heb hb hL hR hlow hhigh
  obtain ⟨p2, s2, st2⟩ := m2
  obtain ⟨p3, s3, st3⟩ := m3
  obtain ⟨p, s⟩ := sorted_halves (by omega) (by omega) (by rw [h.1]; exact hb) hX p2 s2 p3 s3
  exact ⟨permIn_trans _ _ _ _ _ p1 p, s, st1.trans (st2.trans st3)⟩

/-- A merge of parts one of which is empty, or that lie in order already, changes nothing. -/
theorem Mrg.none {lt : α → α → Bool} {K : α → κ} {a b : Nat} {d : Array α} (h : SortedIn lt a b d) : Mrg lt K a b d d := ⟨permIn_refl _ _ _, h, Stab.refl K d⟩

/-- The first small case: one element on the left. -/
theorem Mrg.one_left {lt : α → α → Bool} {K : α → κ} (hS : SWO lt) (hK : ∀ x y, lt x y = true → K x ≠ K y) {a i b : Nat} {d d' : Array α} (h : Rot a (a + 1) i d d') (hi : a + 1 ≤ i) (hib : i ≤ b) (hb : b ≤ d.size) (hR : SortedIn lt (a + 1) b d)
    (hlo : a + 1 < i → lt d[i - 1]! d[a]! = true) (hhi : i < b → lt d[i]! d[a]! = false) : Mrg lt K a b d d' := by
  have hL : SortedIn lt a (a + 1) d := fun i j h1 h2 h3 => by omega
  obtain ⟨p1, st1, _, s2, _, s4, hX⟩ := h.merge (K := K) hS hK (Nat.le_refl _) (by omega) hi hib hb hL hR (fun h => by omega) (fun _ h => hlo h)
  refine ⟨p1, fun p q h1 h2 h3 => ?_, st1⟩
  have e1 : a + (i - (a + 1)) = i - 1 := by omega
  rw [e1] at s2 hX
  by_cases c1 : p < i - 1
  · by_cases c2 : q < i - 1
    · exact s2 p q h1 h2 c2
    · exact hX p q h1 c1 (by omega) h3
  · by_cases c3 : p = i - 1
    · rw [h.out (p := q) (Or.inr (by omega)), h.hi (p := p) (by omega) (by omega) hi, show p - (i - (a + 1)) = a by omega]
      exact SWO.le_le hS (hhi (by omega)) (SortedIn.le hS hR (by omega) (show i ≤ q by omega) h3)
    · exact s4 p q (by omega) h2 h3

/-- The second small case: one element on the right. -/
theorem Mrg.one_right {lt : α → α → Bool} {K : α → κ} (hS : SWO lt) (hK : ∀ x y, lt x y = true → K x ≠ K y) {a i m : Nat} {d d' : Array α} (h : Rot i m (m + 1) d d') (hai : a ≤ i) (him : i ≤ m) (hb : m + 1 ≤ d.size) (hL : SortedIn lt a m d)
    (hlo : a < i → lt d[m]! d[i - 1]! = false) (hhi : i < m → lt d[m]! d[i]! = true) : Mrg lt K a (m + 1) d d' := by
  have hR : SortedIn lt m (m + 1) d := fun i j h1 h2 h3 => by omega
  obtain ⟨p1, st1, s1, _, s3, _, hX⟩ := h.merge (K := K) hS hK hai him (by omega) (Nat.le_refl _) hb hL hR (fun _ h => by omega) (fun h _ => by rw [show m + 1 - 1 = m by omega]; exact hhi h)
  rw [show i + (m + 1 - m) = i + 1 by omega] at s3 hX
  refine ⟨p1, fun p q h1 h2 h3 => ?_, st1⟩
  by_cases c1 : i + 1 ≤ q
  · by_cases c2 : i + 1 ≤ p
    · exact s3 p q c2 h2 h3
    · exact hX p q h1 (by omega) c1 h3
  · by_cases c3 : q = i
    · rw [h.lo (p := q) him (by omega) (by omega), h.out (p := p) (Or.inl (by omega)), show q + (m - i) = m by omega]
      exact SWO.le_le hS (SortedIn.le hS hL h1 (show p ≤ i - 1 by omega) (by omega)) (hlo (by omega))
    · exact s1 p q h1 h2 (by omega)

end Go.Proofs.YtjehjjpdicimhaaGreat

/-
  The contracts of byName, and of slices.SortStableFunc over it where there are fewer than 20 fields.
-/
namespace Go.Proofs.YtjehjjpdicimhaaGreat
open Go.RowKit Go.Sort Go.Lib

def cmpF (x y : Fx) : Int := Lib.compareBytes x.name.data.toList y.name.data.toList
theorem ltF (x y : Fx) : ltOf cmpF x y = decide (Lib.compareBytes x.name.data.toList y.name.data.toList < 0) := rfl

theorem swoF : SWO (ltOf cmpF) where
  irrefl x := by rw [ltF, (cb_zero _ _).2 rfl]; rfl
  trans x y z h1 h2 := by
    rw [ltF, decide_eq_true_iff] at *
    exact cb_lt_trans _ _ _ h1 h2
  ntrans x y z h1 h2 := by
    rw [ltF, decide_eq_false_iff_not] at *
    intro h
    have n1 := cb_neg x.name.data.toList y.name.data.toList
    have n2 := cb_neg y.name.data.toList z.name.data.toList
    rcases cb_range y.name.data.toList x.name.data.toList with h3 | h3 | h3
    · have h4 := cb_lt_trans _ _ _ (show Lib.compareBytes y.name.data.toList x.name.data.toList < 0 by omega) h
      exact h2 h4
    · have e := (cb_zero _ _).1 h3
      rw [e] at h2
      exact h2 h
    · omega

theorem ltF_ne (x y : Fx) (h : ltOf cmpF x y = true) : x.name ≠ y.name := by
  rw [ltF, decide_eq_true_iff] at h
  intro e
  rw [e, cb_self] at h
  omega

theorem encX_one (x : Fx) : ∀ v ∈ encX x, v.oneCell' = true := fun v hv => by simp [encX] at hv; rcases hv with rfl | rfl <;> rfl

/-- What a stable sort leaves. -/
def Sorts (w : World) (blk off : Nat) (d : Array Fx) (w' : World) : Prop :=
  ∃ d' n os, PermIn 0 d.size d d' ∧ SortedIn (ltOf cmpF) 0 d.size d' ∧ Stab Fx.name d d' ∧ w' = sortWorldK encX 2 w blk off n d' os

end Go.Proofs.YtjehjjpdicimhaaGreat
