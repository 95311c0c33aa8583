/-
  Texts of this claim, one behind the other: Stba Stbb Ord Plain Leaf Tac Spell Shelf Fld Bld Dec0 Dec1 May0 May Dec2 Sor Equ Tex Joa Job Stbc Stc Std Ste Stf Joc Sam App Gen Frm Cb0 Cob Coz Cfm Cv0 Spk Sh3 Ix Cut Kys Zcmp Zeq Zcomp2 Zord Zsortz Zkrow Zsame Tak Dfd Ltb Rs0 Fdi Trm Ozw Rname Rp0 Rp1 Rp2 Ksu Pc0 Kst Kr0 Zcompa Zrise Zsorta Nso.
-/
import Derived.Sort.LotA
import Derived.Lib.Bytealg
import GoSem.Claim
import Derived.Test.YtmhlcnmfbolgdaaGreatProg
import Derived.WalkKit
import Derived.WalkSpells
import Derived.WalkLawsBesides
import Derived.Laws.Rows
import Derived.Deep.LoopGhost
import Derived.Deep.QuietTactic
import Derived.Deep.DrawnRows
import Derived.Deep.RegionHeld3
import Derived.Deep.AppendLies
import Derived.BigQuiet
import Derived.BigRegion
import Derived.LoopN
import Derived.OwnWalk
import Derived.Laws.OwnMore
import Derived.Laws.MakeOwn
import Derived.Shelf.SlSortCmp.QuietGrown
import Derived.Shelf.Small.Bits
import Derived.Shelf.Small.Strs
import Derived.Shelf.Small.Wraps
import Derived.Shelf.Strconv.Itoa0
import Derived.Shelf.Strings.Search1
import Derived.Shelf.Strings.Search2
import Derived.Shelf.Strings.Search3
import Derived.Shelf.Strings.Prefix
import Derived.Ground.Names2Prog
import Derived.Shelf.Slices.Clone
import Derived.Ground.SlgnProg
import Derived.Shelf.SlicesE.Clone
import Derived.Ground.SlgfProg
import Derived.Shelf.SlicesE.IndexFunc
import Derived.Shelf.SlGeneric
import Derived.Shelf.SlicesQ.IndexFunc
import Derived.Shelf.SlSortCmp.InsertionK
import Derived.Ground.NamesProg
import Derived.Shelf.Lays
import Derived.Ground.SlgqProg
import Derived.Ground.SlsfProg
import Derived.Shelf.SlLaysE0
import Derived.Shelf.SlLaysF0
import Derived.Shelf.SlLaysH0
import Derived.Shelf.SlLaysQ
import Derived.Shelf.SlSortCmp.SmallK
import Derived.Shelf.SlicesQ.Contains
import Derived.Shelf.SlicesQ.Equal
import Derived.Shelf.SlSortCmp.KitK
import Derived.Lib.Strings
import Derived.Sort.WalkB2
import Derived.Sort.WalkB12
import Derived.Deep.CutRange
import Derived.Laws.CopyOwn
import Derived.Maps.AppendAt
import Derived.Test.YtmhlcnmfbolgdaaGreatRows
import Derived.MakeChecks
import Derived.ProofKit
import Derived.OpenShut
import Derived.Lay
import Derived.Stop.Joined
import Derived.SliceStrings
import Derived.Deep.SlicePairs
import Derived.Lib.LaidU8
import Derived.SizedLaws
import Derived.ChangeSlices
import Derived.JoinedCond
import Derived.Lib.SmallJoins
import Derived.ShutString
import Derived.Below
import Derived.Deep.DeepHandedRow
import Derived.Lib.IndexBytes
import Derived.Laws.StructEq
import Derived.Lib.SliceRun
import Derived.Shelf.SlSortCmp.WholeK
import Derived.Shelf.GgSortFunc.RowK
import Derived.Lib.SlicesCompact
namespace Go.Proofs.YtmhlcnmfbolgdaaGreat
open Go.Sort
set_option linter.unusedSectionVars false
variable {α : Type} [Inhabited α] {κ : Type} [DecidableEq κ]
end Go.Proofs.YtmhlcnmfbolgdaaGreat

namespace Go.Proofs.YtmhlcnmfbolgdaaGreat
open Go.Sort
set_option linter.unusedSectionVars false
variable {α : Type} [Inhabited α] {κ : Type} [DecidableEq κ]
end Go.Proofs.YtmhlcnmfbolgdaaGreat

namespace Go.Proofs.YtmhlcnmfbolgdaaGreat
theorem cb_self (a : List UInt8) : Lib.compareBytes a a = 0 := by
  induction a with
  | nil => rfl
  | cons x a ih => unfold Lib.compareBytes; simp [ih]
theorem cb_zero (a b : List UInt8) : Lib.compareBytes a b = 0 ↔ a = b := by
  constructor
  · induction a generalizing b with
    | nil => cases b with
      | nil => intro _; rfl
      | cons y b => intro h; simp [Lib.compareBytes] at h
    | cons x a ih => cases b with
      | nil => intro h; simp [Lib.compareBytes] at h
      | cons y b =>
        intro h
        unfold Lib.compareBytes at h
        split at h
        · simp at h
        · split at h
          · simp at h
          · rename_i h1 h2
            have : x = y := by
              apply UInt8.toNat_inj.1
              rw [UInt8.lt_iff_toNat_lt] at h1 h2
              omega
            rw [this, ih b h]
  · rintro rfl; exact cb_self a
theorem cb_neg (a b : List UInt8) : Lib.compareBytes b a = - Lib.compareBytes a b := by
  induction a generalizing b with
  | nil => cases b <;> simp [Lib.compareBytes]
  | cons x a ih => cases b with
    | nil => simp [Lib.compareBytes]
    | cons y b =>
      unfold Lib.compareBytes
      by_cases h1 : x < y
      · have h2 : ¬ y < x := by rw [UInt8.lt_iff_toNat_lt] at h1 ⊢; omega
        simp [h1, h2]
      · by_cases h2 : y < x
        · simp [h1, h2]
        · simp [h1, h2, ih b]
theorem cb_range (a b : List UInt8) : Lib.compareBytes a b = -1 ∨ Lib.compareBytes a b = 0 ∨ Lib.compareBytes a b = 1 := by
  induction a generalizing b with
  | nil => cases b <;> simp [Lib.compareBytes]
  | cons x a ih => cases b with
    | nil => simp [Lib.compareBytes]
    | cons y b =>
      unfold Lib.compareBytes
      by_cases h1 : x < y
      · simp [h1]
      · by_cases h2 : y < x
        · simp [h1, h2]
        · simpa [h1, h2] using ih b
theorem cb_lt_trans (a b c : List UInt8) (h1 : Lib.compareBytes a b < 0) (h2 : Lib.compareBytes b c < 0) : Lib.compareBytes a c < 0 := by
  induction a generalizing b c with
  | nil => cases c with
    | nil => cases b <;> simp [Lib.compareBytes] at h1 h2
    | cons z c => simp [Lib.compareBytes]
  | cons x a ih => cases b with
    | nil => simp [Lib.compareBytes] at h1
    | cons y b => cases c with
      | nil => simp [Lib.compareBytes] at h2
      | cons z c =>
        unfold Lib.compareBytes at h1 h2 ⊢
        simp only [UInt8.lt_iff_toNat_lt] at h1 h2 ⊢
        by_cases p1 : x.toNat < y.toNat
        · by_cases q1 : y.toNat < z.toNat
          · rw [if_pos (by omega)]; decide
          · rw [if_neg q1] at h2
            by_cases q2 : z.toNat < y.toNat
            · rw [if_pos q2] at h2; simp at h2
            · rw [if_pos (by omega)]; decide
        · rw [if_neg p1] at h1
          by_cases p2 : y.toNat < x.toNat
          · rw [if_pos p2] at h1; simp at h1
          · rw [if_neg p2] at h1
            by_cases q1 : y.toNat < z.toNat
            · rw [if_pos (by omega)]; decide
            · rw [if_neg q1] at h2
              by_cases q2 : z.toNat < y.toNat
              · rw [if_pos q2] at h2; simp at h2
              · rw [if_neg q2] at h2
                rw [if_neg (by omega), if_neg (by omega)]
                exact ih b c h1 h2
theorem cb_less (a b : List UInt8) : decide (Lib.compareBytes a b < 0) = Op.bytesLess a b := by
  induction a generalizing b with
  | nil => cases b <;> simp [Lib.compareBytes, Op.bytesLess]
  | cons x a ih => cases b with
    | nil => simp [Lib.compareBytes, Op.bytesLess]
    | cons y b =>
      unfold Lib.compareBytes Op.bytesLess
      rw [← ih b]
      by_cases h1 : x < y
      · simp [h1]
      · by_cases h2 : y < x
        · have hne : (x == y) = false := by
            rw [beq_eq_false_iff_ne]; rintro rfl; exact h1 h2
          simp [h1, h2, hne]
        · have he : x = y := by
            apply UInt8.toNat_inj.1
            rw [UInt8.lt_iff_toNat_lt] at h1 h2
            omega
          simp [he]
def pairI (x y : Int) : Int := if x = 0 then y else x
end Go.Proofs.YtmhlcnmfbolgdaaGreat

namespace Go.Proofs.YtmhlcnmfbolgdaaGreat
def bigB (n : Int) : Bool := decide (65 ≤ n) && decide (n ≤ 90)
def smallB (n : Int) : Bool := decide (97 ≤ n) && decide (n ≤ 122)
def digB (n : Int) : Bool := decide (48 ≤ n) && decide (n ≤ 57)
def letB (n : Int) : Bool := bigB n || smallB n
def lodB (n : Int) : Bool := letB n || digB n
def idB (n : Int) : Bool := lodB n || n == 45 || n == 46
def spell (f g : Int → Bool) (l : List UInt8) : Bool :=
  match l with
  | [] => false
  | c :: r => decide (r.length + 1 ≤ 32) && f (c.toNat : Int) && r.all fun x => g (x.toNat : Int)
def typeB (l : List UInt8) : Bool := spell bigB letB l
def idenB (l : List UInt8) : Bool := spell idB idB l
def fieldB (l : List UInt8) : Bool := spell smallB lodB l
theorem spell_unfold (f g : Int → Bool) (s : ByteArray) (h : 0 < s.size) :
    spell f g s.data.toList = (decide (s.size ≤ 32) && f (s[0].toNat : Int) && (s.data.toList.drop 1).all fun x => g (x.toNat : Int)) := by
  obtain ⟨⟨l⟩⟩ := s
  cases l with
  | nil => exact absurd h (Nat.lt_irrefl 0)
  | cons c r => rfl
theorem spell_empty (f g : Int → Bool) (s : ByteArray) (h : s.size = 0) : spell f g s.data.toList = false := by
  obtain ⟨⟨l⟩⟩ := s
  cases l with
  | nil => rfl
  | cons c r => exact absurd h (Nat.succ_ne_zero _)
theorem spell_long (f g : Int → Bool) (s : ByteArray) (h : 32 < s.size) : spell f g s.data.toList = false := by
  rw [spell_unfold f g s (by omega)]
  have : ¬ s.size ≤ 32 := by omega
  simp [this]
theorem spell_first (f g : Int → Bool) (s : ByteArray) (h : 0 < s.size) (hf : f (s[0].toNat : Int) = false) : spell f g s.data.toList = false := by
  rw [spell_unfold f g s h]
  simp [hf]
theorem byte_at (s : ByteArray) (k : Nat) (h : k < s.size) : s.data.toList[k]'(by simpa using h) = s[k] := rfl
theorem spell_at (f g : Int → Bool) (s : ByteArray) (k : Nat) (h1 : 1 ≤ k) (h : k < s.size) (hg : g (s[k].toNat : Int) = false) : spell f g s.data.toList = false := by
  rw [spell_unfold f g s (by omega)]
  have : ((s.data.toList.drop 1).all fun x => g (x.toNat : Int)) = false := by
    rw [Bool.eq_false_iff]
    intro hall
    rw [List.all_eq_true] at hall
    have hl : k < s.data.toList.length := by simpa using h
    have hm : s[k] ∈ s.data.toList.drop 1 := by
      rw [← byte_at s k h, List.mem_iff_getElem]
      refine ⟨k - 1, by simp at hl ⊢; omega, ?_⟩
      rw [List.getElem_drop]
      congr 1
      omega
    have := hall _ hm
    rw [hg] at this
    cases this
  rw [this]; simp
theorem spell_true (f g : Int → Bool) (s : ByteArray) (h : 0 < s.size) (h32 : s.size ≤ 32) (hf : f (s[0].toNat : Int) = true)
    (hg : ∀ k, 1 ≤ k → (hk : k < s.size) → g (s[k].toNat : Int) = true) : spell f g s.data.toList = true := by
  rw [spell_unfold f g s h]
  have : ((s.data.toList.drop 1).all fun x => g (x.toNat : Int)) = true := by
    rw [List.all_eq_true]
    intro x hx
    rw [List.mem_iff_getElem] at hx
    obtain ⟨j, hj, rfl⟩ := hx
    rw [List.getElem_drop]
    have hj2 : 1 + j < s.size := by simp at hj; omega
    exact hg (1 + j) (by omega) hj2
  rw [this]; simp [h32, hf]
end Go.Proofs.YtmhlcnmfbolgdaaGreat

namespace Go.Proofs.YtmhlcnmfbolgdaaGreat
open Go.RowKit
theorem hid {p : Prop} (h : p) : Hid p := h
theorem ret_bool {a b : Bool} (h : a = b) : Ending.returned (.bool a) = .returned (.bool b) := by rw [h]
theorem ret_int {k : IntKind} {a b : Int} (h : a = b) : Ending.returned (.int k a) = .returned (.int k b) := by rw [h]
set_option maxHeartbeats 400000 in
theorem big_any (n : Int) (w : World) : Calls Tryz.prog 299 #[.int .u8 n] w fun e w' => e = .returned (.bool (bigB n)) ∧ w' = w := by
  go_enter Tryz.func299, Tryz.ntmps299
  go_wp2
  all_goals go_ret
  all_goals refine ⟨ret_bool ?_, rfl⟩
  all_goals (rw [Bool.eq_iff_iff]; simp [bigB]; try omega)
set_option maxHeartbeats 400000 in
theorem small_any (n : Int) (w : World) : Calls Tryz.prog 348 #[.int .u8 n] w fun e w' => e = .returned (.bool (smallB n)) ∧ w' = w := by
  go_enter Tryz.func348, Tryz.ntmps348
  go_wp2
  all_goals go_ret
  all_goals refine ⟨ret_bool ?_, rfl⟩
  all_goals (rw [Bool.eq_iff_iff]; simp [smallB]; try omega)
set_option maxHeartbeats 400000 in
theorem letter_any (n : Int) (w : World) : Calls Tryz.prog 300 #[.int .u8 n] w fun e w' => e = .returned (.bool (letB n)) ∧ w' = w := by
  go_enter Tryz.func300, Tryz.ntmps300
  go_wp2
  all_goals go_ret
  all_goals refine ⟨ret_bool ?_, rfl⟩
  all_goals (rw [Bool.eq_iff_iff]; simp [letB, bigB, smallB]; try omega)
set_option maxHeartbeats 400000 in
theorem lod_any (n : Int) (w : World) : Calls Tryz.prog 349 #[.int .u8 n] w fun e w' => e = .returned (.bool (lodB n)) ∧ w' = w := by
  go_enter Tryz.func349, Tryz.ntmps349
  go_wp2
  all_goals go_ret
  all_goals refine ⟨ret_bool ?_, rfl⟩
  all_goals (rw [Bool.eq_iff_iff]; simp [lodB, digB, letB, bigB, smallB]; try omega)
end Go.Proofs.YtmhlcnmfbolgdaaGreat

namespace Go.Proofs.YtmhlcnmfbolgdaaGreat
open Go.RowKit
theorem bel_drewN {B : Nat} {a w : World} (h : Below B a w) (n : Nat) : Below B a (w.drewN n) := ⟨h.os, h.tape, h.output, h.size, h.block⟩
theorem bel_then {B : Nat} {a b c : World} (h : Below B a b) (hB : B ≤ b.heap.size) (k : Below b.heap.size b c) : Below B a c := h.trans (k.mono hB)
theorem Tryz.mixed : Tryz.prog.follows .mixedOrders = true := by kernel_rfl
def Grown (w w' : World) : Prop := ∃ q os, w' = Sort.grow (w.drewN q) os
theorem Grown.refl (w : World) : Grown w w := ⟨0, #[], by rw [Sort.grow_empty]; rfl⟩
theorem Grown.draws (w : World) (n : Nat) : Grown w (w.drewN n) := ⟨n, #[], by rw [Sort.grow_empty]⟩
theorem Grown.trans {a b c : World} (h : Grown a b) (k : Grown b c) : Grown a c := by
  obtain ⟨q, os, rfl⟩ := h
  obtain ⟨q', os', rfl⟩ := k
  exact ⟨q + q', os ++ os', by show Sort.grow (Sort.grow ((a.drewN q).drewN q') os) os' = _; rw [Sort.grow_grow, World.drewN_drewN]⟩
theorem Grown.alloc {a w : World} (h : Grown a w) (o : Obj) : Grown a (w.alloc o) := h.trans ⟨0, #[o], by rw [Sort.alloc_eq_grow]; rfl⟩
theorem Grown.drewN {a w : World} (h : Grown a w) (n : Nat) : Grown a (w.drewN n) := h.trans (Grown.draws w n)
theorem Grown.on {a w : World} {q : Nat} {os : Array Obj} (h : Grown a w) : Grown a (Sort.grow (w.drewN q) os) := h.trans ⟨q, os, rfl⟩
theorem Grown.below {w w' : World} (h : Grown w w') : Below w.heap.size w w' := by
  obtain ⟨q, os, rfl⟩ := h
  refine ⟨rfl, rfl, rfl, by simp [Sort.grow, World.drewN], fun k hk => ?_⟩
  show (w.heap ++ os)[k]? = w.heap[k]?
  rw [Array.getElem?_append_left hk]
end Go.Proofs.YtmhlcnmfbolgdaaGreat

namespace Go.Proofs.YtmhlcnmfbolgdaaGreat
open Go.RowKit
set_option maxHeartbeats 800000 in
theorem spelled_field (s : ByteArray) (w : World) (hs : s.size ≤ maxLen) :
    Calls Tryz.prog 298 #[.string s, .func (.func 348) #[] #[], .func (.func 349) #[] #[]] w fun e w' => e = .returned (.bool (fieldB s.data.toList)) ∧ w' = w := by
  unfold maxLen at hs
  by_cases he : s.size = 0
  · have hb := spell_empty smallB lodB s he
    have hlt : (s.size : Int) < 1 := by omega
    have HB : Hid (spell smallB lodB s.data.toList = false) := hb
    clear he hb
    go_enter Tryz.func298, Tryz.ntmps298
    go_wp2_with fail
    go_ret
    exact ⟨ret_bool HB.out.symm, rfl⟩
  have hpos : 0 < s.size := by omega
  have hnl : ¬ (s.size : Int) < 1 := by omega
  by_cases hl : 32 < s.size
  · have hb := spell_long smallB lodB s hl
    have HB : Hid (spell smallB lodB s.data.toList = false) := hb
    have hgt : (32 : Int) < (s.size : Int) := by omega
    clear he hb
    go_enter Tryz.func298, Tryz.ntmps298
    go_wp2_with fail
    go_ret
    exact ⟨ret_bool HB.out.symm, rfl⟩
  have hle : ¬ (32 : Int) < (s.size : Int) := by omega
  clear he
  cases hc : smallB (s[0].toNat : Int) with
  | false =>
    have HB : Hid (spell smallB lodB s.data.toList = false) := spell_first smallB lodB s hpos hc
    go_enter Tryz.func298, Tryz.ntmps298
    go_wp2_with (go_at_call 348; refine (small_any _ _).mono ?_; rintro e w' ⟨rfl, rfl⟩)
    go_ret
    exact ⟨ret_bool HB.out.symm, rfl⟩
  | true =>
    have HT : Hid ((∀ k, 1 ≤ k → (hk : k < s.size) → lodB (s[k].toNat : Int) = true) → spell smallB lodB s.data.toList = true) := spell_true smallB lodB s hpos (by omega) hc
    have HA : Hid (∀ k, 1 ≤ k → (hk : k < s.size) → lodB (s[k].toNat : Int) = false → spell smallB lodB s.data.toList = false) := fun k h1 hk => spell_at smallB lodB s k h1 hk
    go_enter Tryz.func298, Tryz.ntmps298
    go_wp2_with (go_at_call 348; refine (small_any _ _).mono ?_; rintro e w' ⟨rfl, rfl⟩)
    go_loop [7] (fun i => ∃ k : Nat, 1 ≤ k ∧ k ≤ s.size ∧ i = .int .i64 k ∧ (∀ j, 1 ≤ j → j < k → (hj : j < s.size) → lodB (s[j].toNat : Int) = true)) (fun i => s.size - (intOf i).toNat)
    case atStart => exact ⟨1, by omega, by omega, rfl, fun j h1 h2 => by omega⟩
    case round =>
      obtain ⟨k, hk1, hk, rfl, hall⟩ := hrel
      have HL : Hid (∀ j, 1 ≤ j → j < k → (hj : j < s.size) → lodB (s[j].toNat : Int) = true) := hall
      clear hall
      by_cases hlt : k < s.size
      · cases hd : lodB (s[k].toNat : Int) with
        | false =>
          go_wp2_with (go_at_call 349; refine (lod_any _ _).mono ?_; rintro e w' ⟨rfl, rfl⟩)
          go_ret
          exact ⟨ret_bool (HA.out k hk1 hlt hd).symm, rfl⟩
        | true =>
          go_wp2_with (go_at_call 349; refine (lod_any _ _).mono ?_; rintro e w' ⟨rfl, rfl⟩)
          go_round
          case rel =>
            refine ⟨k + 1, by omega, by omega, by go_num, fun j h1 h2 hj => ?_⟩
            by_cases hjk : j = k
            · subst hjk; exact hd
            · exact HL.out j h1 (by omega) hj
          case measure => simp [intOf]; omega
      · go_wp2_with fail
        go_ret
        exact ⟨ret_bool (HT.out fun j h1 hj => HL.out j h1 (by omega) hj).symm, rfl⟩
set_option maxHeartbeats 400000 in
theorem field_any (s : ByteArray) (w : World) (hs : s.size ≤ maxLen) :
    Calls Tryz.prog 318 #[.string s] w fun e w' => e = .returned (.bool (fieldB s.data.toList)) ∧ w' = w := by
  go_enter Tryz.func318, Tryz.ntmps318
  go_wp2_with (go_at_call 298; refine (spelled_field _ _ hs).mono ?_; rintro e w' ⟨rfl, rfl⟩)
  go_ret
  exact ⟨rfl, rfl⟩
end Go.Proofs.YtmhlcnmfbolgdaaGreat

namespace Go.Proofs
open Go.Shelf
def Tryz.lays106_ren : Go.Shelf.Ren := ⟨fun | 106 => 251 | 213 => 324 | 265 => 369 | n => n, fun | 9 => 9 | 3 => 3 | n => n, fun | n => n⟩
theorem Tryz.lays106 : Go.Proofs.Lays.n106 Tryz.prog Tryz.lays106_ren := {
  mixed := by kernel_rfl
  f106 := Tryz.func251.trans (congrArg some (by kernel_rfl))
  f213 := Tryz.func324.trans (congrArg some (by kernel_rfl))
  f265 := Tryz.func369.trans (congrArg some (by kernel_rfl))
  t3 := Tryz.underlying3
  a3 := Tryz.isAgg3
  z3 := Tryz.sizeOf3
  v3 := Tryz.zeroValue3
  t9 := Tryz.underlying9
  a9 := Tryz.isAgg9
  z9 := Tryz.sizeOf9
  v9 := Tryz.zeroValue9 }
open Go.RowKit in
theorem Tryz.strings_Compare (a b : ByteArray) (w : World) :
    Calls Tryz.prog 251 #[.string a, .string b] w fun e w' => e = .returned (.int .i64 (Lib.compareBytes a.data.toList b.data.toList)) ∧ w' = w := Any.strings_Compare Tryz.lays106 a b w
def Tryz.lays219_ren : Go.Shelf.Ren := ⟨fun | 219 => 407 | 217 => 410 | 225 => 411 | 224 => 412 | 267 => 413 | 266 => 414 | 314 => 415 | n => n, fun | 9 => 9 | 3 => 3 | 4 => 4 | 5 => 5 | 46 => 388 | 146 => 450 | 51 => 418 | n => n, fun | 1 => 0 | n => n⟩
theorem Tryz.lays219 : Go.Proofs.Lays.n219 Tryz.prog Tryz.lays219_ren := {
  mixed := by kernel_rfl
  f217 := Tryz.func410.trans (congrArg some (by kernel_rfl))
  f219 := Tryz.func407.trans (congrArg some (by kernel_rfl))
  f224 := Tryz.func412.trans (congrArg some (by kernel_rfl))
  f225 := Tryz.func411.trans (congrArg some (by kernel_rfl))
  f266 := Tryz.func414.trans (congrArg some (by kernel_rfl))
  f267 := Tryz.func413.trans (congrArg some (by kernel_rfl))
  f314 := Tryz.func415.trans (congrArg some (by kernel_rfl))
  t3 := Tryz.underlying3
  a3 := Tryz.isAgg3
  z3 := Tryz.sizeOf3
  v3 := Tryz.zeroValue3
  t4 := Tryz.underlying4
  a4 := Tryz.isAgg4
  z4 := Tryz.sizeOf4
  v4 := Tryz.zeroValue4
  t5 := Tryz.underlying5
  a5 := Tryz.isAgg5
  z5 := Tryz.sizeOf5
  v5 := Tryz.zeroValue5
  t9 := Tryz.underlying9
  a9 := Tryz.isAgg9
  z9 := Tryz.sizeOf9
  v9 := Tryz.zeroValue9
  t46 := Tryz.underlying388
  a46 := Tryz.isAgg388
  z46 := Tryz.sizeOf388
  v46 := Tryz.zeroValue388
  t51 := Tryz.underlying418
  a51 := Tryz.isAgg418
  z51 := Tryz.sizeOf418
  v51 := Tryz.zeroValue418
  t146 := Tryz.underlying450
  a146 := Tryz.isAgg450
  z146 := Tryz.sizeOf450
  v146 := Tryz.zeroValue450
  g1 := by kernel_rfl }
open Go.RowKit Go.Lib in
theorem Tryz.stringslite_Index_one (s : ByteArray) (c : UInt8) (w : World) :
    Calls Tryz.prog 407 #[.string s, .string ⟨#[c]⟩] w fun e w' => e = .returned (.int .i64 (Lib.indexByte s.data.toList c)) ∧ w' = w := Any.stringslite_Index_one Tryz.lays219 s c w
def Tryz.lays144_ren : Go.Shelf.Ren := ⟨fun | 144 => 371 | 143 => 398 | 219 => 407 | 217 => 410 | 225 => 411 | 224 => 412 | 267 => 413 | 266 => 414 | 314 => 415 | n => n, fun | 9 => 9 | 4 => 4 | 3 => 3 | 5 => 5 | 46 => 388 | 146 => 450 | 51 => 418 | n => n, fun | 1 => 0 | n => n⟩
theorem Tryz.lays144 : Go.Proofs.Lays.n144 Tryz.prog Tryz.lays144_ren := {
  mixed := by kernel_rfl
  f143 := Tryz.func398.trans (congrArg some (by kernel_rfl))
  f144 := Tryz.func371.trans (congrArg some (by kernel_rfl))
  f217 := Tryz.func410.trans (congrArg some (by kernel_rfl))
  f219 := Tryz.func407.trans (congrArg some (by kernel_rfl))
  f224 := Tryz.func412.trans (congrArg some (by kernel_rfl))
  f225 := Tryz.func411.trans (congrArg some (by kernel_rfl))
  f266 := Tryz.func414.trans (congrArg some (by kernel_rfl))
  f267 := Tryz.func413.trans (congrArg some (by kernel_rfl))
  f314 := Tryz.func415.trans (congrArg some (by kernel_rfl))
  t3 := Tryz.underlying3
  a3 := Tryz.isAgg3
  z3 := Tryz.sizeOf3
  v3 := Tryz.zeroValue3
  t4 := Tryz.underlying4
  a4 := Tryz.isAgg4
  z4 := Tryz.sizeOf4
  v4 := Tryz.zeroValue4
  t5 := Tryz.underlying5
  a5 := Tryz.isAgg5
  z5 := Tryz.sizeOf5
  v5 := Tryz.zeroValue5
  t9 := Tryz.underlying9
  a9 := Tryz.isAgg9
  z9 := Tryz.sizeOf9
  v9 := Tryz.zeroValue9
  t46 := Tryz.underlying388
  a46 := Tryz.isAgg388
  z46 := Tryz.sizeOf388
  v46 := Tryz.zeroValue388
  t51 := Tryz.underlying418
  a51 := Tryz.isAgg418
  z51 := Tryz.sizeOf418
  v51 := Tryz.zeroValue418
  t146 := Tryz.underlying450
  a146 := Tryz.isAgg450
  z146 := Tryz.sizeOf450
  v146 := Tryz.zeroValue450
  g1 := by kernel_rfl }
open Go.RowKit Go.Lib in
theorem Tryz.strings_Contains_one (s : ByteArray) (c : UInt8) (w : World) :
    Calls Tryz.prog 371 #[.string s, .string ⟨#[c]⟩] w fun e w' => e = .returned (.bool (decide (0 ≤ Lib.indexByte s.data.toList c))) ∧ w' = w := Any.strings_Contains_one Tryz.lays144 s c w
def Tryz.laysNm216_ren : Go.Shelf.Ren := ⟨fun | 16 => 226 | n => n, fun | 24 => 129 | 9 => 9 | 4 => 4 | n => n, fun | n => n⟩
theorem Tryz.laysNm216 : Go.Proofs.Lays2.n16 Tryz.prog Tryz.laysNm216_ren := {
  mixed := by kernel_rfl
  f16 := Tryz.func226.trans (congrArg some (by kernel_rfl))
  t4 := Tryz.underlying4
  a4 := Tryz.isAgg4
  z4 := Tryz.sizeOf4
  v4 := Tryz.zeroValue4
  t9 := Tryz.underlying9
  a9 := Tryz.isAgg9
  z9 := Tryz.sizeOf9
  v9 := Tryz.zeroValue9
  t24 := Tryz.underlying129
  a24 := Tryz.isAgg129
  z24 := Tryz.sizeOf129
  v24 := Tryz.zeroValue129
  i9 := by kernel_rfl }
open Go.RowKit Go.Lib in
theorem Tryz.slices_Clone_string (b off n c : Nat) (zs : List ByteArray) (w : World) (hz : n ≤ zs.length) (hbig : n * 16 ≤ 140737488355328) (hc : ∀ j, j < zs.length → w.cell? ⟨b, off + j, none⟩ = some (.string (zs.getD j ByteArray.empty))) :
    Calls Tryz.prog 226 #[.slice (some ⟨b, off, none⟩) n c] w fun e w' => ∃ v', e = .returned v' ∧ w'.ownsRow w.heap.size 9 1 v' n ((zs.take n).map (Value.string)) ∧ v' ≠ .slice none 0 0 ∧ Below w.heap.size w w' := Any.slices_Clone_string Tryz.laysNm216 b off n c zs w hz hbig hc
open Go.RowKit Go.Lib in
theorem Tryz.slices_Clone_string_nil (n c : Nat) (w : World) :
    Calls Tryz.prog 226 #[.slice none n c] w fun e w' => e = .returned (.slice none 0 0) ∧ w' = w := Any.slices_Clone_string_nil Tryz.laysNm216 n c w
open Go.RowKit Go.Lib in
theorem Tryz.slices_Clone_string_zero (a : Addr) (c : Nat) (w : World) :
    Calls Tryz.prog 226 #[.slice (some a) 0 c] w fun e w' => ∃ v', e = .returned v' ∧ w'.ownsRow w.heap.size 9 1 v' 0 [] ∧ v' ≠ .slice none 0 0 ∧ Below w.heap.size w w' := Any.slices_Clone_string_zero Tryz.laysNm216 a c w
def Tryz.laysSlH8_f304_ren : Go.Shelf.Ren := ⟨fun | 8 => 304 | 6 => 350 | n => n, fun | 22 => 129 | 23 => 9 | 25 => 323 | 4 => 4 | 3 => 3 | 0 => 0 | n => n, fun | n => n⟩
theorem Tryz.laysSlH8_f304 : Go.Proofs.SlLaysH.n8 Tryz.prog Tryz.laysSlH8_f304_ren := {
  mixed := by kernel_rfl
  f6 := ⟨Tryz.f350.name, by decide, Tryz.func350.trans (congrArg some (by kernel_rfl))⟩
  f8 := ⟨Tryz.f304.name, by decide, Tryz.func304.trans (congrArg some (by kernel_rfl))⟩
  t0 := Tryz.underlying0
  a0 := Tryz.isAgg0
  z0 := Tryz.sizeOf0
  v0 := Tryz.zeroValue0
  t3 := Tryz.underlying3
  a3 := Tryz.isAgg3
  z3 := Tryz.sizeOf3
  v3 := Tryz.zeroValue3
  t4 := Tryz.underlying4
  a4 := Tryz.isAgg4
  z4 := Tryz.sizeOf4
  v4 := Tryz.zeroValue4
  t22 := Tryz.underlying129
  a22 := Tryz.isAgg129
  z22 := Tryz.sizeOf129
  v22 := Tryz.zeroValue129
  a23 := Tryz.isAgg9
  z23 := Tryz.sizeOf9
  t25 := Tryz.underlying323
  a25 := Tryz.isAgg323
  z25 := Tryz.sizeOf323
  v25 := Tryz.zeroValue323 }
open Go.RowKit Go.Lib in
theorem Tryz.slices_ContainsFunc {α : Type} [Inhabited α] (enc : α → Value) (p : α → Bool) (g : Nat) (lb : Array Value) (eg : ∀ args w, (callFunc g args).run Tryz.prog w = .ok (.enter g args) w) (b off n c : Nat) (zs : List α) (w : World) (hp : PredAt Tryz.prog g lb enc p w) (hz : n ≤ zs.length) (hbig : n ≤ 9223372036854775807) (hc : ∀ j, j < zs.length → w.cell? ⟨b, off + j, none⟩ = some (enc zs[j]!)) :
    Calls Tryz.prog 304 #[.slice (some ⟨b, off, none⟩) n c, .func (.func g) #[] lb] w fun e w' => e = .returned (.bool ((zs.take n).any p)) ∧ ∃ q, w' = w.drewN q := AnyE.slices_ContainsFunc Tryz.laysSlH8_f304 enc p g lb eg b off n c zs w hp hz hbig hc
open Go.RowKit Go.Lib in
theorem Tryz.slices_ContainsFunc_empty {α : Type} [Inhabited α] (a : Option Addr) (c : Nat) (fv : Value) (w : World) :
    Calls Tryz.prog 304 #[.slice a 0 c, fv] w fun e w' => e = .returned (.bool false) ∧ w' = w := AnyE.slices_ContainsFunc_empty Tryz.laysSlH8_f304 a c fv w
def Tryz.lays99_ren : Go.Shelf.Ren := ⟨fun | 99 => 328 | 206 => 372 | n => n, fun | 9 => 9 | 4 => 4 | 3 => 3 | n => n, fun | n => n⟩
theorem Tryz.lays99 : Go.Proofs.Lays.n99 Tryz.prog Tryz.lays99_ren := {
  mixed := by kernel_rfl
  f99 := Tryz.func328.trans (congrArg some (by kernel_rfl))
  f206 := Tryz.func372.trans (congrArg some (by kernel_rfl))
  t3 := Tryz.underlying3
  a3 := Tryz.isAgg3
  z3 := Tryz.sizeOf3
  v3 := Tryz.zeroValue3
  t4 := Tryz.underlying4
  a4 := Tryz.isAgg4
  z4 := Tryz.sizeOf4
  v4 := Tryz.zeroValue4
  t9 := Tryz.underlying9
  a9 := Tryz.isAgg9
  z9 := Tryz.sizeOf9
  v9 := Tryz.zeroValue9 }
open Go.RowKit Go.Lib in
theorem Tryz.strings_HasPrefix (s p : ByteArray) (w : World) :
    Calls Tryz.prog 328 #[.string s, .string p] w fun e w' => e = .returned (.bool (Lib.hasPrefix s.data.toList p.data.toList)) ∧ w' = w := Any.strings_HasPrefix Tryz.lays99 s p w
def Tryz.lays125_ren : Go.Shelf.Ren := ⟨fun | 125 => 320 | 128 => 365 | 129 => 366 | n => n, fun | 46 => 388 | 3 => 3 | 51 => 418 | 53 => 22 | 4 => 4 | 5 => 5 | 9 => 9 | n => n, fun | n => n⟩
theorem Tryz.lays125 : Go.Proofs.Lays.n125 Tryz.prog Tryz.lays125_ren := {
  mixed := by kernel_rfl
  f125 := Tryz.func320.trans (congrArg some (by kernel_rfl))
  f128 := Tryz.func365.trans (congrArg some (by kernel_rfl))
  f129 := Tryz.func366.trans (congrArg some (by kernel_rfl))
  t3 := Tryz.underlying3
  a3 := Tryz.isAgg3
  z3 := Tryz.sizeOf3
  v3 := Tryz.zeroValue3
  t4 := Tryz.underlying4
  a4 := Tryz.isAgg4
  z4 := Tryz.sizeOf4
  v4 := Tryz.zeroValue4
  t5 := Tryz.underlying5
  a5 := Tryz.isAgg5
  z5 := Tryz.sizeOf5
  v5 := Tryz.zeroValue5
  t9 := Tryz.underlying9
  a9 := Tryz.isAgg9
  z9 := Tryz.sizeOf9
  v9 := Tryz.zeroValue9
  t46 := Tryz.underlying388
  a46 := Tryz.isAgg388
  z46 := Tryz.sizeOf388
  v46 := Tryz.zeroValue388
  t51 := Tryz.underlying418
  a51 := Tryz.isAgg418
  z51 := Tryz.sizeOf418
  v51 := Tryz.zeroValue418
  t53 := Tryz.underlying22
  a53 := Tryz.isAgg22
  z53 := Tryz.sizeOf22
  v53 := Tryz.zeroValue22 }
theorem Tryz.bits_Len (x : Int) (w : World) (h0 : 0 ≤ x) (h1 : x ≤ 18446744073709551615) :
    Calls Tryz.prog 320 #[.int .u64 x] w fun e w' => e = .returned (.int .i64 (Lib.bitLen x.toNat)) ∧ w' = w := Any.bits_Len Tryz.lays125 x w h0 h1
def Tryz.cloneFld_ren : Go.Shelf.Ren := ⟨fun | 41 => 225 | n => n, fun | 22 => 40 | 23 => 131 | 4 => 4 | n => n, fun | n => n⟩
def Tryz.sortTrm_ren : Go.Shelf.Ren := ⟨fun | 6 => 245 | 15 => 320 | 14 => 319 | 28 => 365 | 29 => 366 | 20 => 357 | 21 => 358 | 22 => 359 | 23 => 360 | 24 => 361 | 25 => 362 | 26 => 363 | 27 => 364 | 46 => 391 | 47 => 392 | 48 => 393 | 49 => 394 | 50 => 395 | 57 => 405 | n => n, fun | 22 => 41 | 24 => 122 | 25 => 341 | 3 => 3 | 39 => 388 | 0 => 0 | 53 => 418 | 55 => 22 | 4 => 4 | 46 => 412 | 45 => 411 | 50 => 396 | 5 => 5 | 9 => 9 | 66 => 432 | 70 => 435 | 76 => 443 | 77 => 444 | n => n, fun | n => n⟩
def Tryz.cloneKey_ren : Go.Shelf.Ren := ⟨fun | 41 => 248 | n => n, fun | 22 => 50 | 23 => 39 | 4 => 4 | n => n, fun | n => n⟩
theorem Tryz.cloneKey : Go.Proofs.SlLaysE0.n41 Tryz.prog Tryz.cloneKey_ren := {
  mixed := by kernel_rfl
  f41 := ⟨Tryz.f248.name, by decide, Tryz.func248.trans (congrArg some (by kernel_rfl))⟩
  t4 := Tryz.underlying4
  a4 := Tryz.isAgg4
  z4 := Tryz.sizeOf4
  v4 := Tryz.zeroValue4
  t22 := Tryz.underlying50
  a22 := Tryz.isAgg50
  z22 := Tryz.sizeOf50
  v22 := Tryz.zeroValue50 }
def Tryz.sortKey_ren : Go.Shelf.Ren := ⟨fun | 6 => 256 | 15 => 320 | 14 => 333 | 28 => 365 | 29 => 366 | 20 => 373 | 21 => 374 | 22 => 375 | 23 => 376 | 24 => 377 | 25 => 378 | 26 => 379 | 27 => 380 | 46 => 399 | 47 => 392 | 48 => 393 | 49 => 400 | 50 => 401 | 57 => 408 | n => n, fun | 22 => 50 | 24 => 39 | 25 => 278 | 3 => 3 | 39 => 388 | 0 => 0 | 53 => 418 | 55 => 22 | 4 => 4 | 46 => 412 | 45 => 411 | 50 => 396 | 5 => 5 | 9 => 9 | 66 => 432 | 70 => 435 | 76 => 443 | 77 => 444 | n => n, fun | n => n⟩
theorem Tryz.sortKey : Go.Proofs.SlLaysF0.n6 Tryz.prog Tryz.sortKey_ren := {
  mixed := by kernel_rfl
  f6 := ⟨Tryz.f256.name, by decide, Tryz.func256.trans (congrArg some (by kernel_rfl))⟩
  f14 := ⟨Tryz.f333.name, by decide, Tryz.func333.trans (congrArg some (by kernel_rfl))⟩
  f15 := Tryz.func320.trans (congrArg some (by kernel_rfl))
  f20 := ⟨Tryz.f373.name, by decide, Tryz.func373.trans (congrArg some (by kernel_rfl))⟩
  f21 := ⟨Tryz.f374.name, by decide, Tryz.func374.trans (congrArg some (by kernel_rfl))⟩
  f22 := ⟨Tryz.f375.name, by decide, Tryz.func375.trans (congrArg some (by kernel_rfl))⟩
  f23 := ⟨Tryz.f376.name, by decide, Tryz.func376.trans (congrArg some (by kernel_rfl))⟩
  f24 := ⟨Tryz.f377.name, by decide, Tryz.func377.trans (congrArg some (by kernel_rfl))⟩
  f25 := ⟨Tryz.f378.name, by decide, Tryz.func378.trans (congrArg some (by kernel_rfl))⟩
  f26 := ⟨Tryz.f379.name, by decide, Tryz.func379.trans (congrArg some (by kernel_rfl))⟩
  f27 := ⟨Tryz.f380.name, by decide, Tryz.func380.trans (congrArg some (by kernel_rfl))⟩
  f28 := Tryz.func365.trans (congrArg some (by kernel_rfl))
  f29 := Tryz.func366.trans (congrArg some (by kernel_rfl))
  f46 := ⟨Tryz.f399.name, by decide, Tryz.func399.trans (congrArg some (by kernel_rfl))⟩
  f47 := Tryz.func392.trans (congrArg some (by kernel_rfl))
  f48 := Tryz.func393.trans (congrArg some (by kernel_rfl))
  f49 := ⟨Tryz.f400.name, by decide, Tryz.func400.trans (congrArg some (by kernel_rfl))⟩
  f50 := ⟨Tryz.f401.name, by decide, Tryz.func401.trans (congrArg some (by kernel_rfl))⟩
  f57 := ⟨Tryz.f408.name, by decide, Tryz.func408.trans (congrArg some (by kernel_rfl))⟩
  t0 := Tryz.underlying0
  a0 := Tryz.isAgg0
  z0 := Tryz.sizeOf0
  v0 := Tryz.zeroValue0
  t3 := Tryz.underlying3
  a3 := Tryz.isAgg3
  z3 := Tryz.sizeOf3
  v3 := Tryz.zeroValue3
  t4 := Tryz.underlying4
  a4 := Tryz.isAgg4
  z4 := Tryz.sizeOf4
  v4 := Tryz.zeroValue4
  t5 := Tryz.underlying5
  a5 := Tryz.isAgg5
  z5 := Tryz.sizeOf5
  v5 := Tryz.zeroValue5
  t9 := Tryz.underlying9
  a9 := Tryz.isAgg9
  z9 := Tryz.sizeOf9
  v9 := Tryz.zeroValue9
  t22 := Tryz.underlying50
  a22 := Tryz.isAgg50
  z22 := Tryz.sizeOf50
  v22 := Tryz.zeroValue50
  t25 := Tryz.underlying278
  a25 := Tryz.isAgg278
  z25 := Tryz.sizeOf278
  v25 := Tryz.zeroValue278
  t39 := Tryz.underlying388
  a39 := Tryz.isAgg388
  z39 := Tryz.sizeOf388
  v39 := Tryz.zeroValue388
  t45 := Tryz.underlying411
  a45 := Tryz.isAgg411
  z45 := Tryz.sizeOf411
  v45 := Tryz.zeroValue411
  t46 := Tryz.underlying412
  a46 := Tryz.isAgg412
  z46 := Tryz.sizeOf412
  v46 := Tryz.zeroValue412
  t50 := Tryz.underlying396
  a50 := Tryz.isAgg396
  z50 := Tryz.sizeOf396
  v50 := Tryz.zeroValue396
  t53 := Tryz.underlying418
  a53 := Tryz.isAgg418
  z53 := Tryz.sizeOf418
  v53 := Tryz.zeroValue418
  t55 := Tryz.underlying22
  a55 := Tryz.isAgg22
  z55 := Tryz.sizeOf22
  v55 := Tryz.zeroValue22
  t66 := Tryz.underlying432
  a66 := Tryz.isAgg432
  z66 := Tryz.sizeOf432
  v66 := Tryz.zeroValue432
  t70 := Tryz.underlying435
  a70 := Tryz.isAgg435
  z70 := Tryz.sizeOf435
  v70 := Tryz.zeroValue435
  t76 := Tryz.underlying443
  a76 := Tryz.isAgg443
  z76 := Tryz.sizeOf443
  v76 := Tryz.zeroValue443
  t77 := Tryz.underlying444
  a77 := Tryz.isAgg444
  z77 := Tryz.sizeOf444
  v77 := Tryz.zeroValue444 }
def Tryz.conKys_ren : Go.Shelf.Ren := ⟨fun | 7 => 352 | 6 => 390 | n => n, fun | 22 => 50 | 24 => 39 | 4 => 4 | 0 => 0 | 3 => 3 | n => n, fun | n => n⟩
theorem Tryz.conKys : Go.Proofs.SlLaysQ.n7 Tryz.prog Tryz.conKys_ren := {
  mixed := by kernel_rfl
  f6 := ⟨Tryz.f390.name, by decide, Tryz.func390.trans (congrArg some (by kernel_rfl))⟩
  f7 := ⟨Tryz.f352.name, by decide, Tryz.func352.trans (congrArg some (by kernel_rfl))⟩
  t0 := Tryz.underlying0
  a0 := Tryz.isAgg0
  z0 := Tryz.sizeOf0
  v0 := Tryz.zeroValue0
  t3 := Tryz.underlying3
  a3 := Tryz.isAgg3
  z3 := Tryz.sizeOf3
  v3 := Tryz.zeroValue3
  t4 := Tryz.underlying4
  a4 := Tryz.isAgg4
  z4 := Tryz.sizeOf4
  v4 := Tryz.zeroValue4
  t22 := Tryz.underlying50
  a22 := Tryz.isAgg50
  z22 := Tryz.sizeOf50
  v22 := Tryz.zeroValue50 }
end Go.Proofs

namespace Go.Proofs.YtmhlcnmfbolgdaaGreat
open Go.RowKit
abbrev Fld := ByteArray × List ByteArray
structure Fx where
  name : ByteArray
  p : Option Addr
  cap : Nat
  txt : List ByteArray
  deriving Inhabited
def Fx.sl (x : Fx) : Value := .slice x.p x.txt.length x.cap
def Fx.fld (x : Fx) : Fld := (x.name, x.txt)
def encX (x : Fx) : List Value := [.string x.name, x.sl]
def Fx.val (x : Fx) : Value := .agg (encX x).toArray
def TxtAt (w : World) (p : Option Addr) (ts : List ByteArray) : Prop :=
  ts = [] ∨ ∃ b off, p = some ⟨b, off, none⟩ ∧ ∀ i, (h : i < ts.length) → w.cell? ⟨b, off + i, none⟩ = some (.string ts[i])
def Fx.at (w : World) (x : Fx) : Prop := TxtAt w x.p x.txt
def XsAt (w : World) (b off : Nat) (d : List Fx) : Prop :=
  ∀ i, (h : i < d.length) → w.cell? ⟨b, off + i * 2, none⟩ = some (.string d[i].name) ∧ w.cell? ⟨b, off + i * 2 + 1, none⟩ = some d[i].sl
def IsXs (w : World) (v : Value) (d : List Fx) : Prop :=
  ∃ p cap, v = .slice p d.length cap ∧ (d = [] ∨ ∃ b off, p = some ⟨b, off, none⟩ ∧ XsAt w b off d) ∧ ∀ x ∈ d, x.at w
def FitT (ts : List ByteArray) : Prop := ts.length ≤ maxLen ∧ ∀ t ∈ ts, t.size ≤ maxLen
def FitF (f : Fld) : Prop := f.1.size ≤ maxLen ∧ FitT f.2
def FitX (d : List Fx) : Prop := d.length ≤ maxLen ∧ ∀ x ∈ d, FitF x.fld
theorem cell_block {w : World} {a : Addr} {v : Value} (h : w.cell? a = some v) : a.block < w.heap.size := by
  rcases Nat.lt_or_ge a.block w.heap.size with h' | h'
  · exact h'
  · simp [World.cell?, Array.getElem?_eq_none h'] at h
theorem TxtAt.kept {w w' : World} {p : Option Addr} {ts : List ByteArray} (h : TxtAt w p ts) (hb : Below w.heap.size w w') : TxtAt w' p ts := by
  rcases h with h | ⟨b, off, hp, h⟩
  · exact Or.inl h
  · exact Or.inr ⟨b, off, hp, fun i hi => (hb.cell (p := ⟨b, off + i, none⟩) (cell_block (h i hi))).trans (h i hi)⟩
theorem XsAt.kept {w w' : World} {b off : Nat} {d : List Fx} (h : XsAt w b off d) (hb : Below w.heap.size w w') : XsAt w' b off d :=
  fun i hi => ⟨(hb.cell (p := ⟨b, off + i * 2, none⟩) (cell_block (h i hi).1)).trans (h i hi).1, (hb.cell (p := ⟨b, off + i * 2 + 1, none⟩) (cell_block (h i hi).2)).trans (h i hi).2⟩
theorem IsXs.at_all {w : World} {v : Value} {d : List Fx} (h : IsXs w v d) : ∀ x ∈ d, x.at w := by
  obtain ⟨_, _, _, _, h⟩ := h
  exact h
theorem IsXs.kept {w w' : World} {v : Value} {d : List Fx} (h : IsXs w v d) (hb : Below w.heap.size w w') : IsXs w' v d := by
  obtain ⟨p, cap, rfl, h, ht⟩ := h
  refine ⟨p, cap, rfl, ?_, fun x hx => (ht x hx).kept hb⟩
  rcases h with h | ⟨b, off, hp, h⟩
  · exact Or.inl h
  · exact Or.inr ⟨b, off, hp, h.kept hb⟩
def longB (t : ByteArray) : Bool := decide (128 < t.size)
def fitsB (f : Fld) : Bool := fieldB f.1.data.toList && !f.2.isEmpty && decide (f.2.length ≤ 8) && !f.2.any longB
set_option maxHeartbeats 1000000 in
theorem misnamed_any (x : Fx) (w : World) (hs : x.name.size ≤ maxLen) : Calls Tryz.prog 302 #[x.val] w fun e w' => e = .returned (.bool (!fieldB x.name.data.toList)) ∧ Grown w w' := by
  obtain ⟨nm, p, cap, ts⟩ := x
  simp only [Fx.val, encX, Fx.sl] at hs ⊢
  go_enter Tryz.func302, Tryz.ntmps302
  go_wp2_with (go_at_call 318; refine (field_any _ _ hs).mono ?_; rintro e w' ⟨rfl, rfl⟩)
  go_ret
  exact ⟨rfl, (Grown.refl _).alloc _⟩
set_option maxHeartbeats 1000000 in
theorem bare_any (x : Fx) (w : World) : Calls Tryz.prog 303 #[x.val] w fun e w' => e = .returned (.bool x.txt.isEmpty) ∧ Grown w w' := by
  obtain ⟨nm, p, cap, ts⟩ := x
  simp only [Fx.val, encX, Fx.sl]
  have HE : Hid (decide ((ts.length : Int) = 0) = ts.isEmpty) := by
    show _ = _
    cases ts <;> simp
    omega
  go_enter Tryz.func303, Tryz.ntmps303
  go_wp2_with fail
  go_ret
  exact ⟨ret_bool HE.out, (Grown.refl _).alloc _⟩
set_option maxHeartbeats 1000000 in
theorem tooLong_any (t : ByteArray) (w : World) : Calls Tryz.prog 305 #[.string t] w fun e w' => e = .returned (.bool (longB t)) ∧ w' = w := by
  have HE : Hid (decide ((128 : Int) < t.size) = longB t) := by
    show _ = _
    unfold longB
    rw [Bool.eq_iff_iff]; simp; omega
  go_enter Tryz.func305, Tryz.ntmps305
  go_wp2_with fail
  go_ret
  exact ⟨ret_bool HE.out, rfl⟩
end Go.Proofs.YtmhlcnmfbolgdaaGreat

namespace Go.Proofs.YtmhlcnmfbolgdaaGreat
open Go.RowKit Go.Shelf
theorem own_on {w w' : World} {base : Nat} {e : TypeId} {size : Nat} {v : Value} {n : Nat} {xs : List Value} (h : w.ownsRow base e size v n xs) (hb : Below w.heap.size w w') : w'.ownsRow base e size v n xs :=
  h.kept (row := none) ⟨hb.os, hb.tape, hb.output, hb.size, fun k hk _ => hb.block k hk⟩ (Classical.em _)
end Go.Proofs.YtmhlcnmfbolgdaaGreat

namespace Go.Proofs.YtmhlcnmfbolgdaaGreat
open Go.RowKit
theorem addr_add (b off i : Nat) : (⟨b, off, none⟩ : Addr).add i = ⟨b, off + i, none⟩ := by
  unfold Addr.add
  split
  · rename_i h; simp_all
  · rfl
theorem grown_set (w : World) (R i : Nat) (v : Value) : w.grownBy (w.setCell ⟨R, i, none⟩ v) (some R) :=
  ⟨rfl, rfl, rfl, by simp [World.setCell], fun k _ hne => Below.heap_setCell w _ _ k (fun e => hne (by rw [e]))⟩
theorem grown_trans {a b c : World} {R : Nat} (h : a.grownBy b (some R)) (k : b.grownBy c (some R)) : a.grownBy c (some R) :=
  ⟨k.os.trans h.os, k.tape.trans h.tape, k.output.trans h.output, Nat.le_trans h.size k.size, fun i hi hn => (k.block i (Nat.lt_of_lt_of_le hi h.size) hn).trans (h.block i hi hn)⟩
end Go.Proofs.YtmhlcnmfbolgdaaGreat

namespace Go.Proofs.YtmhlcnmfbolgdaaGreat
open Go.RowKit
def OwnT (n0 : Nat) (w : World) (v : Value) (ts : List ByteArray) : Prop := w.ownsRow n0 9 1 v ts.length (ts.map Value.string)
theorem own_weak {w : World} {base base' : Nat} {e : TypeId} {size : Nat} {v : Value} {n : Nat} {xs : List Value} (h : w.ownsRow base e size v n xs) (hb : base' ≤ base) : w.ownsRow base' e size v n xs := by
  refine ⟨h.1, ?_⟩
  rcases h.2 with h2 | ⟨g, cap, cur, h3, h4, h5⟩
  · exact .inl h2
  · exact .inr ⟨g, cap, cur, h3, by omega, h5⟩
theorem OwnT.on {n0 : Nat} {w w' : World} {v : Value} {ts : List ByteArray} (h : OwnT n0 w v ts) (hb : Below w.heap.size w w') : OwnT n0 w' v ts := own_on h hb
end Go.Proofs.YtmhlcnmfbolgdaaGreat

namespace Go.Proofs.YtmhlcnmfbolgdaaGreat
open Go.RowKit
theorem enters_tooLong : ∀ args w, (callFunc 305 args).run Tryz.prog w = .ok (.enter 305 args) w := enters_of Tryz.func305 (by kernel_rfl) rfl
theorem hasLong_any (p : Option Addr) (cap : Nat) (ts : List ByteArray) (w : World) (h : TxtAt w p ts) (hs : ts.length ≤ maxLen) :
    Calls Tryz.prog 304 #[.slice p ts.length cap, .func (.func 305) #[] #[]] w fun e w' => e = .returned (.bool (ts.any longB)) ∧ ∃ q, w' = w.drewN q := by
  unfold maxLen at hs
  rcases h with rfl | ⟨b, off, rfl, hc⟩
  · refine (Tryz.slices_ContainsFunc_empty (α := ByteArray) p cap _ w).mono ?_
    rintro e w' ⟨rfl, rfl⟩
    exact ⟨rfl, 0, rfl⟩
  · refine (Tryz.slices_ContainsFunc (fun t : ByteArray => Value.string t) longB 305 #[] enters_tooLong b off ts.length cap ts w (fun W x hb => (tooLong_any x W).mono ?_) (Nat.le_refl _) (by omega) ?_).mono ?_
    · rintro e w' ⟨rfl, rfl⟩
      exact ⟨rfl, 0, rfl⟩
    · intro j hj
      rw [getElem!_pos ts j hj]
      exact hc j hj
    · rintro e w' ⟨rfl, hq⟩
      rw [List.take_length]
      exact ⟨rfl, hq⟩
set_option maxHeartbeats 1000000 in
theorem fits_any (x : Fx) (w : World) (hx : x.at w) (hf : FitF x.fld) : Calls Tryz.prog 224 #[x.val] w fun e w' => e = .returned (.bool (fitsB x.fld)) ∧ Grown w w' := by
  obtain ⟨hs, hl, _⟩ := hf
  have HM := hid (misnamed_any x)
  have HBA := hid (bare_any x)
  obtain ⟨nm, p, cap, ts⟩ := x
  simp only [Fx.val, encX, Fx.sl, Fx.fld, Fx.at] at hs hl hx HM HBA ⊢
  have hb1 : Grown w (w.alloc (.cells #[.string nm, .slice p ts.length cap] 131)) := (Grown.refl _).alloc _
  have HX := hid (hx.kept hb1.below)
  have HS := hid hs
  have HL := hid hl
  clear hx hs hl
  obtain ⟨r, hr⟩ : ∃ r, fitsB (nm, ts) = r := ⟨_, rfl⟩
  rw [hr]
  have HR := hid hr
  clear hr
  have A0 : ∀ w1, Below (w.alloc (.cells #[.string nm, .slice p ts.length cap] 131)).heap.size (w.alloc (.cells #[.string nm, .slice p ts.length cap] 131)) w1 → w1.cell? ⟨w.heap.size, 0, none⟩ = some (.string nm) ∧ w1.cell? ⟨w.heap.size, 1, none⟩ = some (.slice p ts.length cap) := fun w1 hb => by
    refine ⟨(hb.cell (p := ⟨w.heap.size, 0, none⟩) (by simp)).trans (by simp [go_sem]), (hb.cell (p := ⟨w.heap.size, 1, none⟩) (by simp)).trans (by simp [go_sem])⟩
  have A1 := hid A0
  clear A0
  cases h1 : fieldB nm.data.toList with
  | false =>
    have H0 : Hid (r = false) := by show r = false; rw [← HR.out]; simp [fitsB, h1]
    go_enter Tryz.func224, Tryz.ntmps224
    go_wp2_with (first | (go_at_call 302; refine (HM.out _ HS.out).mono ?_; rintro e w1 ⟨rfl, hb2⟩; simp only [h1]))
    go_ret
    exact ⟨ret_bool H0.out.symm, hb1.trans hb2⟩
  | true =>
    cases h2 : ts.isEmpty with
    | true =>
      have H0 : Hid (r = false) := by show r = false; rw [← HR.out]; simp [fitsB, h2]
      go_enter Tryz.func224, Tryz.ntmps224
      go_wp2_with (first | (go_at_call 302; refine (HM.out _ HS.out).mono ?_; rintro e w1 ⟨rfl, hb2⟩; obtain ⟨a0, a1⟩ := A1.out _ hb2.below; simp only [h1]) | (go_at_call 303; refine (HBA.out _).mono ?_; rintro e w2 ⟨rfl, hb3⟩; simp only [h2]))
      go_ret
      exact ⟨ret_bool H0.out.symm, (hb1.trans hb2).trans hb3⟩
    | false =>
      by_cases h8 : ts.length ≤ 8
      · have h8z : ¬ (8 : Int) < (ts.length : Int) := by omega
        have H0 : Hid (r = !ts.any longB) := by show r = _; rw [← HR.out]; unfold fitsB; rw [h1, h2, decide_eq_true h8]; rfl
        go_enter Tryz.func224, Tryz.ntmps224
        go_wp2_with (first | (go_at_call 302; refine (HM.out _ HS.out).mono ?_; rintro e w1 ⟨rfl, hb2⟩; obtain ⟨a0, a1⟩ := A1.out _ hb2.below; simp only [h1]) | (go_at_call 303; refine (HBA.out _).mono ?_; rintro e w2 ⟨rfl, hb3⟩; obtain ⟨b0, b1⟩ := A1.out _ (hb2.trans hb3).below; simp only [h2]) | (go_at_call 304; refine (hasLong_any _ _ _ _ (HX.out.kept (hb2.trans hb3).below) HL.out).mono ?_; rintro e w3 ⟨rfl, q, rfl⟩))
        go_ret
        exact ⟨ret_bool H0.out.symm, ((hb1.trans hb2).trans hb3).drewN _⟩
      · have h8z : (8 : Int) < (ts.length : Int) := by omega
        have H0 : Hid (r = false) := by show r = _; rw [← HR.out]; unfold fitsB; rw [decide_eq_false h8]; simp
        go_enter Tryz.func224, Tryz.ntmps224
        go_wp2_with (first | (go_at_call 302; refine (HM.out _ HS.out).mono ?_; rintro e w1 ⟨rfl, hb2⟩; obtain ⟨a0, a1⟩ := A1.out _ hb2.below; simp only [h1]) | (go_at_call 303; refine (HBA.out _).mono ?_; rintro e w2 ⟨rfl, hb3⟩; obtain ⟨b0, b1⟩ := A1.out _ (hb2.trans hb3).below; simp only [h2]))
        go_ret
        exact ⟨ret_bool H0.out.symm, (hb1.trans hb2).trans hb3⟩
end Go.Proofs.YtmhlcnmfbolgdaaGreat

namespace Go.Proofs.YtmhlcnmfbolgdaaGreat
open Go.RowKit
def ltN (a b : ByteArray) : Bool := Op.bytesLess a.toList b.toList
def stepOk (fs : List Fld) (i : Nat) : Bool := fitsB (fs.getD i default) && (decide (i = 0) || ltN (fs.getD (i - 1) default).1 (fs.getD i default).1)
def mayB (fs : List Fld) : Bool := decide (fs.length ≤ 16) && (List.range fs.length).all (stepOk fs)
theorem flds_at {d : List Fx} {i : Nat} (h : i < d.length) : (d.map Fx.fld).getD i default = d[i].fld := by
  rw [List.getD_eq_getElem?_getD, List.getElem?_map, List.getElem?_eq_getElem h]; rfl
theorem may_long {fs : List Fld} (h : 16 < fs.length) : mayB fs = false := by
  unfold mayB; rw [decide_eq_false (by omega)]; rfl
theorem may_no {fs : List Fld} {i : Nat} (h : i < fs.length) (hs : stepOk fs i = false) : mayB fs = false := by
  unfold mayB
  have : (List.range fs.length).all (stepOk fs) = false := by
    rw [Bool.eq_false_iff]
    intro ha
    rw [List.all_eq_true] at ha
    have := ha i (List.mem_range.2 h)
    rw [hs] at this; cases this
  rw [this]; simp
theorem may_yes {fs : List Fld} (h : fs.length ≤ 16) (hs : ∀ i, i < fs.length → stepOk fs i = true) : mayB fs = true := by
  unfold mayB
  have : (List.range fs.length).all (stepOk fs) = true := by
    rw [List.all_eq_true]
    exact fun i hi => hs i (List.mem_range.1 hi)
  rw [this, decide_eq_true h]; rfl
theorem x_new (w : World) (x : Fx) (w' : World) (hb : Below (w.alloc (.cells #[.string x.name, .slice x.p x.txt.length x.cap] 131)).heap.size (w.alloc (.cells #[.string x.name, .slice x.p x.txt.length x.cap] 131)) w') :
    w'.cell? ⟨w.heap.size, 0, none⟩ = some (.string x.name) ∧ w'.cell? ⟨w.heap.size, 1, none⟩ = some (.slice x.p x.txt.length x.cap) :=
  ⟨(hb.cell (p := ⟨w.heap.size, 0, none⟩) (by simp)).trans (by simp [go_sem]), (hb.cell (p := ⟨w.heap.size, 1, none⟩) (by simp)).trans (by simp [go_sem])⟩
set_option maxHeartbeats 4000000 in
set_option maxRecDepth 100000 in
theorem may_any (v : Value) (d : List Fx) (w : World) (hv : IsXs w v d) (hf : FitX d) : Calls Tryz.prog 144 #[v] w fun e w' => e = .returned (.bool (mayB (d.map Fx.fld))) ∧ Grown w w' := by
  obtain ⟨p, cap, rfl, hd, ht⟩ := hv
  have HT := hid ht
  have HF := hid hf.2
  have hl := hf.1
  unfold maxLen at hl
  have HD := hid hd
  clear ht hf hd
  obtain ⟨r, hr⟩ : ∃ r, mayB (d.map Fx.fld) = r := ⟨_, rfl⟩
  rw [hr]
  have HR := hid hr
  clear hr
  by_cases h16 : 16 < d.length
  · have h16z : (16 : Int) < d.length := by omega
    have H0 : Hid (r = false) := HR.out.symm.trans (may_long (by rw [List.length_map]; exact h16))
    go_enter Tryz.func144, Tryz.ntmps144
    go_wp2_with fail
    go_ret
    exact ⟨ret_bool H0.out.symm, Grown.refl _⟩
  have h16z : ¬ (16 : Int) < d.length := by omega
  go_enter Tryz.func144, Tryz.ntmps144
  go_wp2_with fail
  go_loopg [10] d.length (fun g vi wr => ∃ i : Nat, vi = .int .i64 i ∧ i ≤ d.length ∧ d.length - i ≤ g ∧ Grown w wr ∧ Hid (∀ j, j < i → stepOk (d.map Fx.fld) j = true))
  case atStart => exact ⟨0, rfl, by omega, by omega, Grown.refl _, fun j h => by omega⟩
  case round =>
    obtain ⟨i, rfl, hi, hg, hb, HJ⟩ := hrel
    by_cases hlt : i < d.length
    · have hltz : (i : Int) < (d.length : Int) := by omega
      have hiz : (0 : Int) ≤ i := by omega
      obtain ⟨b, off, rfl, hxs⟩ : ∃ b off, p = some ⟨b, off, none⟩ ∧ XsAt w b off d := by
        rcases HD.out with h | h
        · subst h; simp at hlt
        · exact h
      have hxr := hxs.kept hb.below
      obtain ⟨c0, c1⟩ := hxr i hlt
      have hxi : (d[i]).at wr := (HT.out _ (List.getElem_mem hlt)).kept hb.below
      have hfi := HF.out _ (List.getElem_mem hlt)
      have hsx := flds_at hlt
      obtain ⟨x, hx⟩ : ∃ x, d[i] = x := ⟨_, rfl⟩
      rw [hx] at c0 c1 hxi hfi hsx
      have HXR := hid hxr
      have HXI := hid hxi
      have HFI := hid hfi
      have HSX := hid hsx
      clear hxr hxs hxi hfi hx hsx
      unfold Fx.sl at c1
      have FFX : Hid (∀ W, x.at W → Calls Tryz.prog 224 #[.agg #[.string x.name, .slice x.p x.txt.length x.cap]] W fun e w' => e = .returned (.bool (fitsB x.fld)) ∧ ∃ q os', w' = Sort.grow (W.drewN q) os') := fun W h => fits_any x W h HFI.out
      have mixed := Tryz.mixed
      by_cases h0 : i = 0
      · have h0z : ¬ (0 : Int) < (i : Int) := by omega
        have H00 := hid h0
        clear h0
        go_wp2_with fail
        obtain ⟨W1, hW1⟩ : ∃ W1, wr.alloc (.cells #[.string x.name, .slice x.p x.txt.length x.cap] 131) = W1 := ⟨_, rfl⟩
        have full : ∀ n os, (Sort.grow (W1.drewN n) os).cell? ⟨wr.heap.size, 0, none⟩ = some (.string x.name) ∧ (Sort.grow (W1.drewN n) os).cell? ⟨wr.heap.size, 1, none⟩ = some (.slice x.p x.txt.length x.cap) ∧ x.at (Sort.grow (W1.drewN n) os) := fun n os => by
          subst hW1
          have hgr := (Grown.refl (wr.alloc (.cells #[.string x.name, .slice x.p x.txt.length x.cap] 131))).on (q := n) (os := os)
          obtain ⟨f0, f1⟩ := x_new wr x _ hgr.below
          have hbw := (((Grown.refl wr).alloc (.cells #[.string x.name, .slice x.p x.txt.length x.cap] 131)).trans hgr).below
          exact ⟨f0, f1, HXI.out.kept hbw⟩
        have q0 : ∀ n os, (Sort.grow (W1.drewN n) os).cell? ⟨wr.heap.size, 0, none⟩ = some (.string x.name) := fun n os => (full n os).1
        have q1 : ∀ n os, (Sort.grow (W1.drewN n) os).cell? ⟨wr.heap.size, 1, none⟩ = some (.slice x.p x.txt.length x.cap) := fun n os => (full n os).2.1
        have Q3 : Hid (∀ n os, x.at (Sort.grow (W1.drewN n) os)) := fun n os => (full n os).2.2
        have hbW : Grown w W1 := by subst hW1; exact hb.alloc _
        rw [hW1]
        clear full hW1 c0 c1
        cases hfx : fitsB x.fld with
        | false =>
          rw [hfx] at FFX
          have H0 : Hid (r = false) := HR.out.symm.trans (may_no (i := i) (by rw [List.length_map]; exact hlt) (by unfold stepOk; rw [HSX.out, hfx]; rfl))
          refine wp_region_quiet_grown mixed (by kernel_rfl) ?_
          repeat (go_big_quiet_step (first | (go_at_call 224; refine Calls.grown_of (FFX.out _ (Q3.out _ _)))))
          refine wpQuiet_nil ?_
          intro _ hw'
          obtain ⟨⟨nq, osq⟩, hw''⟩ := hw'
          subst hw''
          go_wp2_with fail
          go_ret
          exact ⟨ret_bool H0.out.symm, hbW.on⟩
        | true =>
          rw [hfx] at FFX
          have cb : decide (0 < i) = false := decide_eq_false (by have := H00.out; omega)
          have H0 : Hid (stepOk (d.map Fx.fld) i = true) := by show _ = _; unfold stepOk; rw [HSX.out, hfx, decide_eq_true H00.out]; rfl
          refine wp_region_quiet_grown mixed (by kernel_rfl) ?_
          repeat (go_big_quiet_step (first | (go_at_call 224; refine Calls.grown_of (FFX.out _ (Q3.out _ _)))))
          refine wpQuiet_nil ?_
          intro _ hw'
          obtain ⟨⟨nq, osq⟩, hw''⟩ := hw'
          subst hw''
          go_wp2_with fail
          go_roundg (d.length - (i + 1))
          case measure => omega
          refine ⟨i + 1, by go_num, by omega, by omega, hbW.on, fun j hj => ?_⟩
          obtain rfl : j = i := by have := H00.out; omega
          exact H0.out
      · obtain ⟨k, rfl⟩ : ∃ k, i = k + 1 := ⟨i - 1, by omega⟩
        obtain ⟨e0, e1⟩ := HXR.out k (by omega)
        have hsy := flds_at (d := d) (i := k) (by omega)
        obtain ⟨y, hy⟩ : ∃ y, d[k] = y := ⟨_, rfl⟩
        rw [hy] at e0 hsy
        have HSY := hid hsy
        clear e1 hy hsy
        have k1 : (0 : Int) < (k : Int) + 1 := by omega
        have k2 : (0 : Int) ≤ (k : Int) := by omega
        have k3 : (k : Int) < (d.length : Int) := by omega
        go_wp2_with fail
        obtain ⟨W1, hW1⟩ : ∃ W1, wr.alloc (.cells #[.string x.name, .slice x.p x.txt.length x.cap] 131) = W1 := ⟨_, rfl⟩
        have full : ∀ n os, (Sort.grow (W1.drewN n) os).cell? ⟨wr.heap.size, 0, none⟩ = some (.string x.name) ∧ (Sort.grow (W1.drewN n) os).cell? ⟨wr.heap.size, 1, none⟩ = some (.slice x.p x.txt.length x.cap) ∧ (Sort.grow (W1.drewN n) os).cell? ⟨b, off + k * 2, none⟩ = some (.string y.name) ∧ x.at (Sort.grow (W1.drewN n) os) := fun n os => by
          subst hW1
          have hgr := (Grown.refl (wr.alloc (.cells #[.string x.name, .slice x.p x.txt.length x.cap] 131))).on (q := n) (os := os)
          obtain ⟨f0, f1⟩ := x_new wr x _ hgr.below
          have hbw := (((Grown.refl wr).alloc (.cells #[.string x.name, .slice x.p x.txt.length x.cap] 131)).trans hgr).below
          exact ⟨f0, f1, (hbw.cell (p := ⟨b, off + k * 2, none⟩) (cell_block e0)).trans e0, HXI.out.kept hbw⟩
        have q0 : ∀ n os, (Sort.grow (W1.drewN n) os).cell? ⟨wr.heap.size, 0, none⟩ = some (.string x.name) := fun n os => (full n os).1
        have q1 : ∀ n os, (Sort.grow (W1.drewN n) os).cell? ⟨wr.heap.size, 1, none⟩ = some (.slice x.p x.txt.length x.cap) := fun n os => (full n os).2.1
        have q2 : ∀ n os, (Sort.grow (W1.drewN n) os).cell? ⟨b, off + k * 2, none⟩ = some (.string y.name) := fun n os => (full n os).2.2.1
        have Q3 : Hid (∀ n os, x.at (Sort.grow (W1.drewN n) os)) := fun n os => (full n os).2.2.2
        have hbW : Grown w W1 := by subst hW1; exact hb.alloc _
        rw [hW1]
        clear full hW1 c0 c1 e0
        cases hfx : fitsB x.fld with
        | false =>
          rw [hfx] at FFX
          have H0 : Hid (r = false) := HR.out.symm.trans (may_no (i := k + 1) (by rw [List.length_map]; exact hlt) (by unfold stepOk; rw [HSX.out, hfx]; rfl))
          refine wp_region_quiet_grown mixed (by kernel_rfl) ?_
          repeat (go_big_quiet_step (first | (go_at_call 224; refine Calls.grown_of (FFX.out _ (Q3.out _ _)))))
          refine wpQuiet_nil ?_
          intro _ hw'
          obtain ⟨⟨nq, osq⟩, hw''⟩ := hw'
          subst hw''
          go_wp2_with fail
          go_ret
          exact ⟨ret_bool H0.out.symm, hbW.on⟩
        | true =>
          rw [hfx] at FFX
          have H0 : Hid (stepOk (d.map Fx.fld) (k + 1) = ltN y.name x.name) := by
            show _ = _
            unfold stepOk
            rw [HSX.out, hfx, Nat.add_sub_cancel, HSY.out, decide_eq_false (by omega)]
            rfl
          cases hlt2 : Op.bytesLess y.name.toList x.name.toList with
          | false =>
            have H1 : Hid (r = false) := HR.out.symm.trans (may_no (i := k + 1) (by rw [List.length_map]; exact hlt) (H0.out.trans hlt2))
            refine wp_region_quiet_grown mixed (by kernel_rfl) ?_
            repeat (go_big_quiet_step (first | (go_at_call 224; refine Calls.grown_of (FFX.out _ (Q3.out _ _)))))
            refine wpQuiet_nil ?_
            intro _ hw'
            obtain ⟨⟨nq, osq⟩, hw''⟩ := hw'
            subst hw''
            go_wp2_with fail
            go_ret
            exact ⟨ret_bool H1.out.symm, hbW.on⟩
          | true =>
            have H1 : Hid (stepOk (d.map Fx.fld) (k + 1) = true) := H0.out.trans hlt2
            refine wp_region_quiet_grown mixed (by kernel_rfl) ?_
            repeat (go_big_quiet_step (first | (go_at_call 224; refine Calls.grown_of (FFX.out _ (Q3.out _ _)))))
            refine wpQuiet_nil ?_
            intro _ hw'
            obtain ⟨⟨nq, osq⟩, hw''⟩ := hw'
            subst hw''
            go_wp2_with fail
            go_roundg (d.length - (k + 1 + 1))
            case measure => omega
            refine ⟨k + 1 + 1, by go_num, by omega, by omega, hbW.on, fun j hj => ?_⟩
            by_cases e : j = k + 1
            · subst e; exact H1.out
            · exact HJ.out j (by omega)
    · have hltz : ¬ (i : Int) < (d.length : Int) := by omega
      have H0 : Hid (r = true) := HR.out.symm.trans (may_yes (by rw [List.length_map]; omega) (fun j hj => HJ.out j (by rw [List.length_map] at hj; omega)))
      go_wp2_with fail
      go_ret
      exact ⟨ret_bool H0.out.symm, hb⟩
end Go.Proofs.YtmhlcnmfbolgdaaGreat

namespace Go.Proofs.YtmhlcnmfbolgdaaGreat
open Go.RowKit
theorem Tryz.infoFld : (Tryz.prog.info? 131).map (fun i => (i.zero, i.size, i.bytes)) = some (some (.agg #[.string ⟨#[]⟩, .slice none 0 0]), 2, 40) := by kernel_rfl
def cellsX (d : List Fx) : List Value := d.flatMap encX
theorem cellsX_len (d : List Fx) : (cellsX d).length = d.length * 2 := by
  induction d with
  | nil => rfl
  | cons x d ih => simp [cellsX, encX] at ih ⊢; omega
theorem cellsX_get (d : List Fx) (i : Nat) (h : i < d.length) : (cellsX d)[i * 2]? = some (.string d[i].name) ∧ (cellsX d)[i * 2 + 1]? = some d[i].sl := by
  induction d generalizing i with
  | nil => simp at h
  | cons x d ih =>
    have e : cellsX (x :: d) = .string x.name :: x.sl :: cellsX d := rfl
    rw [e]
    cases i with
    | zero => simp
    | succ i =>
      have := ih i (by simpa using h)
      rw [show (i + 1) * 2 = i * 2 + 1 + 1 by omega]
      simpa using this
def OwnXs (n0 : Nat) (w : World) (v : Value) (d : List Fx) : Prop := w.ownsRow n0 131 2 v d.length (cellsX d) ∧ ∀ x ∈ d, OwnT n0 w x.sl x.txt
theorem OwnT.txtAt {n0 : Nat} {w : World} {p : Option Addr} {cap : Nat} {ts : List ByteArray} (h : OwnT n0 w (.slice p ts.length cap) ts) : TxtAt w p ts := by
  rcases h.2 with ⟨_, h0⟩ | ⟨g, c, cur, hv, _, hg, _, _, hsz, htk⟩
  · exact Or.inl (List.length_eq_zero_iff.1 h0)
  · right
    injection hv with hp
    refine ⟨g, 0, hp, fun i hi => ?_⟩
    rw [Nat.zero_add, cell_of_row w g i cur _ _ hg]
    have : (ts.map Value.string)[i]? = cur.toList[i]? := by
      rw [← htk, List.getElem?_take, if_pos (by omega)]
    rw [← Array.getElem?_toList, ← this]
    simp [hi]
theorem OwnXs.is {n0 : Nat} {w : World} {v : Value} {d : List Fx} (h : OwnXs n0 w v d) : IsXs w v d := by
  obtain ⟨h1, h2⟩ := h
  rcases h1.2 with ⟨rfl, h0⟩ | ⟨g, c, cur, rfl, _, hg, _, _, hsz, htk⟩
  · obtain rfl := List.length_eq_zero_iff.1 h0
    exact ⟨none, 0, rfl, Or.inl rfl, fun x hx => by simp at hx⟩
  · refine ⟨_, c, rfl, Or.inr ⟨g, 0, rfl, fun i hi => ?_⟩, fun x hx => OwnT.txtAt (h2 x hx)⟩
    obtain ⟨c0, c1⟩ := cellsX_get d i hi
    have e : ∀ j, j < d.length * 2 → (cellsX d)[j]? = cur[j]? := fun j hj => by
      rw [← htk, List.getElem?_take, if_pos hj, Array.getElem?_toList]
    rw [Nat.zero_add, cell_of_row w g _ cur _ _ hg, cell_of_row w g _ cur _ _ hg, ← e _ (by omega), ← e _ (by omega)]
    exact ⟨c0, c1⟩
theorem OwnXs.on {n0 : Nat} {w w' : World} {v : Value} {d : List Fx} (h : OwnXs n0 w v d) (hb : Below w.heap.size w w') : OwnXs n0 w' v d := ⟨own_on h.1 hb, fun x hx => (h.2 x hx).on hb⟩
theorem own_slice {n0 : Nat} {w : World} {sv : Value} {ts : List ByteArray} (h : OwnT n0 w sv ts) : ∃ p cap, sv = .slice p ts.length cap := by
  rcases h.2 with ⟨hv, h0⟩ | ⟨g, cap, cur, hv, _⟩
  · exact ⟨none, 0, by rw [hv, h0]⟩
  · exact ⟨_, _, hv⟩
theorem cellsX_one (d : List Fx) : ∀ u ∈ cellsX d, u.oneCell' = true := by
  intro u hu
  obtain ⟨x, _, hx⟩ := List.mem_flatMap.1 hu
  simp [encX] at hx
  rcases hx with rfl | rfl <;> rfl
theorem fitX_of {d : List Fx} {fs : List Fld} (h : d.map Fx.fld = fs) (hl : d.length ≤ maxLen) (hf : ∀ f ∈ fs, FitF f) : FitX d :=
  ⟨hl, fun x hx => hf _ (by rw [← h]; exact List.mem_map.2 ⟨x, hx, rfl⟩)⟩
end Go.Proofs.YtmhlcnmfbolgdaaGreat

namespace Go.Proofs.YtmhlcnmfbolgdaaGreat
open Go.RowKit Go.Sort Go.Lib
end Go.Proofs.YtmhlcnmfbolgdaaGreat

namespace Go.Proofs.YtmhlcnmfbolgdaaGreat
open Go.RowKit
theorem toList_eq (a b : ByteArray) : (a.toList == b.toList) = decide (a = b) := by
  rw [Bool.eq_iff_iff]
  simp only [beq_iff_eq, decide_eq_true_eq]
  constructor
  · intro h
    rw [Lib.toList_data, Lib.toList_data] at h
    obtain ⟨⟨l⟩⟩ := a
    obtain ⟨⟨m⟩⟩ := b
    simp at h
    rw [h]
  · rintro rfl; rfl
end Go.Proofs.YtmhlcnmfbolgdaaGreat

namespace Go.Proofs.YtmhlcnmfbolgdaaGreat
open Go.RowKit
theorem cloneT_any (p : Option Addr) (cap : Nat) (ts : List ByteArray) (w : World) (h : TxtAt w p ts) (hs : ts.length * 16 ≤ 140737488355328) :
    Calls Tryz.prog 226 #[.slice p ts.length cap] w fun e w' => ∃ v, e = .returned v ∧ OwnT w.heap.size w' v ts ∧ Below w.heap.size w w' := by
  rcases h with rfl | ⟨b, off, rfl, hc⟩
  · cases p with
    | none =>
      refine (Tryz.slices_Clone_string_nil 0 cap w).mono ?_
      rintro e w' ⟨rfl, rfl⟩
      exact ⟨_, rfl, World.ownsRow_nil _ _ _ _, Below.refl _ _⟩
    | some a =>
      refine (Tryz.slices_Clone_string_zero a cap w).mono ?_
      rintro e w' ⟨v, rfl, ho, _, hb⟩
      exact ⟨_, rfl, ho, hb⟩
  · refine (Tryz.slices_Clone_string b off ts.length cap ts w (Nat.le_refl _) hs (fun j hj => ?_)).mono ?_
    · rw [hc j hj, List.getD_eq_getElem?_getD, List.getElem?_eq_getElem hj]; rfl
    · rintro e w' ⟨v, rfl, ho, _, hb⟩
      rw [List.take_length] at ho
      exact ⟨_, rfl, ho, hb⟩
def textsOf (fs : List Fld) (n : ByteArray) : List ByteArray := ((fs.find? fun f => decide (f.1 = n)).map (·.2)).getD []
theorem textsOf_at (fs : List Fld) (n : ByteArray) (i : Nat) (hi : i < fs.length) (hn : ∀ j (h : j < i), (fs[j]'(by omega)).1 ≠ n) (he : fs[i].1 = n) : textsOf fs n = fs[i].2 := by
  unfold textsOf
  have : fs.find? (fun f => decide (f.1 = n)) = some fs[i] := by
    rw [List.find?_eq_some_iff_getElem]
    refine ⟨by simpa using he, i, hi, rfl, fun j hj => ?_⟩
    simpa using hn j hj
  rw [this]; rfl
theorem textsOf_no (fs : List Fld) (n : ByteArray) (hn : ∀ j (h : j < fs.length), fs[j].1 ≠ n) : textsOf fs n = [] := by
  unfold textsOf
  have : fs.find? (fun f => decide (f.1 = n)) = none := by
    rw [List.find?_eq_none]
    intro f hf
    obtain ⟨j, hj, rfl⟩ := List.mem_iff_getElem.1 hf
    simpa using hn j hj
  rw [this]; rfl
def TxPost (w : World) (ts : List ByteArray) (e : Ending) (w' : World) : Prop := (∃ v, e = .returned v ∧ OwnT w.heap.size w' v ts) ∧ Below w.heap.size w w'
set_option maxHeartbeats 4000000 in
set_option maxRecDepth 100000 in
theorem texts_any (v : Value) (nm : ByteArray) (d : List Fx) (w : World) (hv : IsXs w v d) (hf : FitX d) (h16 : ∀ x ∈ d, x.txt.length * 16 ≤ 140737488355328) :
    Calls Tryz.prog 254 #[v, .string nm] w fun e w' => TxPost w (textsOf (d.map Fx.fld) nm) e w' := by
  obtain ⟨p, cap, rfl, hd, ht⟩ := hv
  have HT := hid ht
  have HD := hid hd
  have H16 := hid h16
  have hl := hf.1
  unfold maxLen at hl
  clear ht hd hf h16
  go_enter Tryz.func254, Tryz.ntmps254
  go_wp2_with fail
  go_loopg [9] d.length (fun g vi wr => ∃ i : Nat, vi = .int .i64 i ∧ i ≤ d.length ∧ d.length - i ≤ g ∧ Grown w wr ∧ Hid (∀ j (h : j < d.length), j < i → d[j].name ≠ nm))
  case atStart => exact ⟨0, rfl, by omega, by omega, Grown.refl _, fun j _ h => by omega⟩
  case round =>
    obtain ⟨i, rfl, hi, hg, hb, HJ⟩ := hrel
    by_cases hlt : i < d.length
    · have hltz : (i : Int) < (d.length : Int) := by omega
      have hiz : (0 : Int) ≤ i := by omega
      obtain ⟨b, off, rfl, hxs⟩ : ∃ b off, p = some ⟨b, off, none⟩ ∧ XsAt w b off d := by
        rcases HD.out with h | h
        · subst h; simp at hlt
        · exact h
      obtain ⟨c0, c1⟩ := hxs.kept hb.below i hlt
      have hxi : (d[i]).at w := HT.out _ (List.getElem_mem hlt)
      have hs16 := H16.out _ (List.getElem_mem hlt)
      have hyes : d[i].name = nm → textsOf (d.map Fx.fld) nm = d[i].txt := fun e => by
        have := textsOf_at (d.map Fx.fld) nm i (by rw [List.length_map]; exact hlt) (fun j hj => by simp only [List.getElem_map]; exact HJ.out j (by omega) hj) (by simp only [List.getElem_map]; exact e)
        simpa [Fx.fld] using this
      have hnx : d[i].name ≠ nm → ∀ j (h : j < d.length), j < i + 1 → d[j].name ≠ nm := fun e j h hj => by
        by_cases ej : j = i
        · subst ej; exact e
        · exact HJ.out j h (by omega)
      obtain ⟨x, hx⟩ : ∃ x, d[i] = x := ⟨_, rfl⟩
      rw [hx] at c0 c1 hxi hs16 hyes hnx
      have HXI := hid hxi
      have HYES := hid hyes
      have HNX := hid hnx
      clear hxs hxi hx hyes hnx
      unfold Fx.sl at c1
      have hgW : Grown w (wr.alloc (.cells #[.string x.name, .slice x.p x.txt.length x.cap] 131)) := hb.alloc _
      have HGW := hid hgW
      have HCL := hid (cloneT_any x.p x.cap x.txt _ (HXI.out.kept hgW.below) hs16)
      clear hgW
      cases hq : (x.name.toList == nm.toList) with
      | true =>
        have hq2 : x.name = nm := by rw [toList_eq, decide_eq_true_eq] at hq; exact hq
        have HQ := hid (HYES.out hq2)
        clear hq2
        go_wp2_with (first | (go_at_call 226; refine HCL.out.mono ?_; rintro e w2 ⟨u, rfl, ho, hb2⟩))
        go_ret
        refine ⟨⟨_, rfl, ?_⟩, HGW.out.below.trans (hb2.mono HGW.out.below.size)⟩
        rw [HQ.out]
        exact own_weak ho HGW.out.below.size
      | false =>
        have hq2 : x.name ≠ nm := by rw [toList_eq, decide_eq_false_iff_not] at hq; exact hq
        have HQ := hid (HNX.out hq2)
        clear hq2
        go_wp2_with fail
        go_roundg (d.length - (i + 1))
        case measure => omega
        exact ⟨i + 1, by go_num, by omega, by omega, HGW.out, HQ.out⟩
    · have hltz : ¬ (i : Int) < (d.length : Int) := by omega
      have H0 : Hid (textsOf (d.map Fx.fld) nm = []) := textsOf_no _ _ (fun j hj => by
        rw [List.length_map] at hj
        simp only [List.getElem_map]
        exact HJ.out j hj (by omega))
      go_wp2_with fail
      go_ret
      refine ⟨⟨_, rfl, ?_⟩, hb.below⟩
      rw [H0.out]
      exact World.ownsRow_nil _ _ _ _
end Go.Proofs.YtmhlcnmfbolgdaaGreat

namespace Go.Proofs.YtmhlcnmfbolgdaaGreat
open Go.RowKit Go.Sort Go.Lib
def Apart (o : List Fx) : Prop := o.Pairwise fun x y => x.sl.ownBlock = none ∨ x.sl.ownBlock ≠ y.sl.ownBlock
def OwnJ (N : Nat) (w : World) (v : Value) (o : List Fx) : Prop := OwnXs N w v o ∧ Apart o
theorem OwnJ.on {N : Nat} {w w' : World} {v : Value} {o : List Fx} (h : OwnJ N w v o) (hb : Below w.heap.size w w') : OwnJ N w' v o := ⟨h.1.on hb, h.2⟩
theorem apart_snoc {o : List Fx} {x : Fx} (h : Apart o) (hx : ∀ y ∈ o, y.sl.ownBlock = none ∨ y.sl.ownBlock ≠ x.sl.ownBlock) : Apart (o ++ [x]) := by
  unfold Apart
  rw [List.pairwise_append]
  exact ⟨h, List.pairwise_singleton _ _, fun a ha b hb => by rw [List.mem_singleton] at hb; subst hb; exact hx a ha⟩
theorem own_type {w : World} {n0 : Nat} {e : TypeId} {size : Nat} {v : Value} {n : Nat} {xs : List Value} {k : Nat} (h : w.ownsRow n0 e size v n xs) (hk : v.ownBlock = some k) : ∃ cs, w.heap[k]? = some (.cells cs e (0, 0)) := by
  rcases h.2 with ⟨rfl, _⟩ | ⟨g, cap, cur, rfl, _, hg, _⟩
  · cases hk
  · have : g = k := by simpa [Value.ownBlock] using hk
    subst this
    exact ⟨cur, hg⟩
theorem own_else {w w' : World} {n0 m0 : Nat} {e e' : TypeId} {size size' : Nat} {v u : Value} {n m : Nat} {xs ys : List Value} (h : w.ownsRow n0 e size v n xs) (hu : w.ownsRow m0 e' size' u m ys) (hne : e ≠ e') (hg : w.grownBy w' u.ownBlock) : w'.ownsRow n0 e size v n xs := by
  refine h.kept hg ?_
  rcases hv : v.ownBlock with _ | k
  · exact Or.inl rfl
  · right
    intro e2
    obtain ⟨cs, h1⟩ := own_type h hv
    obtain ⟨cs', h2⟩ := own_type hu e2.symm
    rw [h1] at h2
    injection h2 with h2
    injection h2 with _ h2
    exact hne h2
end Go.Proofs.YtmhlcnmfbolgdaaGreat

namespace Go.Proofs.YtmhlcnmfbolgdaaGreat
open Go.RowKit Go.Sort Go.Lib
theorem xs_cells {w : World} {b off : Nat} {d : List Fx} (h : XsAt w b off d) : ∀ j u, (cellsX d)[j]? = some u → w.cell? ⟨b, off + j, none⟩ = some u := by
  intro j u hj
  have hjl := (List.getElem?_eq_some_iff.1 hj).1
  rw [cellsX_len] at hjl
  obtain ⟨c0, c1⟩ := h (j / 2) (by omega)
  obtain ⟨g0, g1⟩ := cellsX_get d (j / 2) (by omega)
  rcases Nat.mod_two_eq_zero_or_one j with h2 | h2
  · have e : j / 2 * 2 = j := by omega
    rw [e] at c0 g0
    rw [g0] at hj
    rw [c0]; exact hj
  · have e : j / 2 * 2 + 1 = j := by omega
    rw [show off + j / 2 * 2 + 1 = off + j by omega] at c1
    rw [e] at g1
    rw [g1] at hj
    rw [c1]; exact hj
set_option maxHeartbeats 2000000 in
set_option maxRecDepth 100000 in
theorem cloneX_any (v : Value) (d : List Fx) (w : World) (hv : IsXs w v d) (hs : d.length * 40 ≤ 140737488355328) :
    Calls Tryz.prog 225 #[v] w fun e w' => ∃ u, e = .returned u ∧ w'.ownsRow w.heap.size 131 2 u d.length (cellsX d) ∧ Below w.heap.size w w' := by
  obtain ⟨i0, hi, hz0, hz1, hz2⟩ := info_parts Tryz.infoFld
  obtain ⟨p, cap, rfl, hd, _⟩ := hv
  have q22 : ∀ (w : World) (a : Option Addr) (n c n' c' : Nat), (binOp .eql 40 (.slice a n c) (.slice none n' c')).run Tryz.prog w = .ok (.bool a.isNone) w := fun w a n c n' c' => Lib.run_eql_slice_nil w _ _ a n c n' c' Tryz.underlying40
  have HD := hid hd
  clear hd
  cases p with
  | none =>
    have h0 : d = [] := by
      rcases HD.out with h | ⟨b, off, h, _⟩
      · exact h
      · cases h
    subst h0
    go_enter Tryz.func225, Tryz.ntmps225
    go_wp2_with fail
    go_ret
    exact ⟨_, rfl, World.ownsRow_nil _ _ _ _, Below.refl _ _⟩
  | some a =>
    have hcells : ∀ j u, (cellsX d)[j]? = some u → (w.alloc (.cells #[] 131)).cell? (a.add j) = some u := by
      rcases HD.out with h | ⟨b, off, h, hx⟩
      · subst h; intro j u hj; simp [cellsX] at hj
      · intro j u hj
        obtain rfl : a = ⟨b, off, none⟩ := by simpa using h
        rw [addr_add]
        have := xs_cells hx j u hj
        rw [World.cell?_alloc_lt _ _ ⟨b, off + j, none⟩ (cell_block this)]; exact this
    have HC := hid hcells
    clear hcells
    go_enter Tryz.func225, Tryz.ntmps225
    go_wp2_with (at_builtin; refine wpList_append_own _ rfl _ _ 40 rfl w.heap.size 131 i0 (.agg #[.string ⟨#[]⟩, .slice none 0 0]) 2 40 Tryz.underlying40 hi hz0 hz1 hz2 rfl (by decide) _ _ _ rfl (World.ownsRow_made w #[] 0 (Nat.le_refl _) (Nat.zero_le _) (by simp)) a d.length cap (cellsX d) rfl ?c0 ?c1 ?c2 ?c3 ?c4 ?c5 ?_)
    case c0 => exact cellsX_len d
    case c1 => exact HC.out
    case c2 => exact cellsX_one d
    case c3 => unfold maxLen; omega
    case c4 => omega
    case c5 => simp
    intro v' w1 hown hgrow hnil
    have hb1 : Below w.heap.size w w1 := ((Below.refl _ w).alloc (Nat.le_refl _) _).grown hgrow (by simp) (by intro k hk; simp [Value.ownBlock] at hk; omega)
    have HO : Hid (w1.ownsRow w.heap.size 131 2 v' d.length (cellsX d)) := hid (by simpa using hown)
    clear hown hgrow hnil
    go_wp2_with fail
    go_ret
    exact ⟨_, rfl, HO.out, hb1⟩
theorem flat_get (l : List Fx) (t : Nat) (h : t < l.length * 2) : (l.flatMap encX)[t]? = some (encX (l[t / 2]!))[t % 2]! := by
  induction l generalizing t with
  | nil => simp at h
  | cons x l ih =>
    rw [List.flatMap_cons]
    by_cases h2 : t < 2
    · rcases (show t = 0 ∨ t = 1 by omega) with rfl | rfl <;> simp [encX]
    · obtain ⟨u, rfl⟩ : ∃ u, t = u + 2 := ⟨t - 2, by omega⟩
      have hl : (encX x).length = 2 := rfl
      rw [List.getElem?_append_right (by omega), hl, show u + 2 - 2 = u by omega, ih u (by simp at h; omega), show (u + 2) / 2 = u / 2 + 1 by omega, show (u + 2) % 2 = u % 2 by omega]
      simp
theorem holds_of_heap {w : World} {g : Nat} {cur : Array Value} {e : TypeId} (d : Array Fx) (hheap : w.heap[g]? = some (.cells cur e (0, 0))) (htake : cur.toList.take (d.size * 2) = cellsX d.toList) : HoldsK encX 2 w g 0 d := by
  intro j hj
  rw [size_flatK] at hj
  have hg := flat_get d.toList j (by simpa using hj)
  have h1 : (cur.toList.take (d.size * 2))[j]? = some (encX (d.toList[j / 2]!))[j % 2]! := by rw [htake]; exact hg
  rw [List.getElem?_take_of_lt hj] at h1
  rw [get_flatK _ _ _ _ hj]
  constructor
  · simp only [World.cell?, hheap, Nat.zero_add]
    have he : d.toList[j / 2]! = d[j / 2]! := by
      rw [getElem!_pos d (j / 2) (by omega), getElem!_pos d.toList (j / 2) (by simp; omega)]; simp
    rw [← Array.getElem?_toList, h1, he]
    rfl
  · simp [World.frozen?, hheap]
theorem below_sortWorld {B : Nat} {w0 w : World} (h : Below B w0 w) (hB : B ≤ w.heap.size) (blk off n : Nat) (d : Array Fx) (os : Array Obj) (hb : B ≤ blk) : Below B w0 (sortWorldK encX 2 w blk off n d os) := by
  refine h.trans ⟨rfl, rfl, rfl, ?_, ?_⟩
  · simp [sortWorldK, putRowK]
  · intro k hk
    have hks : k < w.heap.size := by omega
    simp only [sortWorldK, Sort.grow, putRowK, putRow, mapBlock, Sort.ahead]
    rw [Array.getElem?_append_left (by simpa using hks), Array.getElem?_modify, if_neg (by omega)]
end Go.Proofs.YtmhlcnmfbolgdaaGreat

namespace Go.Proofs.YtmhlcnmfbolgdaaGreat
open Go.Sort
set_option linter.unusedSectionVars false
variable {α : Type} [Inhabited α] {κ : Type} [DecidableEq κ]
end Go.Proofs.YtmhlcnmfbolgdaaGreat

namespace Go.Proofs.YtmhlcnmfbolgdaaGreat
open Go.RowKit Go.Sort Go.Lib Go.Shelf
end Go.Proofs.YtmhlcnmfbolgdaaGreat

namespace Go.Proofs.YtmhlcnmfbolgdaaGreat
open Go.RowKit Go.Sort Go.Lib Go.Shelf
end Go.Proofs.YtmhlcnmfbolgdaaGreat

namespace Go.Proofs.YtmhlcnmfbolgdaaGreat
open Go.RowKit Go.Sort Go.Lib Go.Shelf
end Go.Proofs.YtmhlcnmfbolgdaaGreat

namespace Go.Proofs.YtmhlcnmfbolgdaaGreat
open Go.RowKit Go.Sort Go.Lib Go.Shelf
end Go.Proofs.YtmhlcnmfbolgdaaGreat

namespace Go.Proofs.YtmhlcnmfbolgdaaGreat
open Go.RowKit Go.Sort Go.Lib
end Go.Proofs.YtmhlcnmfbolgdaaGreat

namespace Go.Proofs.YtmhlcnmfbolgdaaGreat
open Go.RowKit
end Go.Proofs.YtmhlcnmfbolgdaaGreat

namespace Go.Proofs.YtmhlcnmfbolgdaaGreat
open Go.RowKit Go.Lib
theorem grownBy_refl (w : World) (g : Option Nat) : w.grownBy w g := ⟨rfl, rfl, rfl, Nat.le_refl _, fun _ _ _ => rfl⟩
theorem wpList_append_rows {ops : Array Oper} {rest : List Oper} {o : Oper} {a : Act} {Q : Exit → Act → World → Prop} (w : World) (hgd : o.guard = none) (s x : Operand) (t : TypeId)
    (ho : o.op = .call { callee := .builtin .append, args := #[s, x], argTypes := #[t, t] })
    (base : Nat) (e : TypeId) (i : TypeInfo) (z : Value) (size bytes : Nat) (ht : Tryz.prog.underlying t = some (.slice e)) (hi : Tryz.prog.info? e = some i) (hz : i.zero = some z)
    (hsize : i.size = size) (hby : i.bytes = bytes) (hzs : z.cells.size = size) (hsz : 0 < size)
    (v : Value) (n : Nat) (xs : List Value) (hs : a.eval s = v) (hown : w.ownsRow base e size v n xs)
    (p : Option Addr) (m c : Nat) (news : List Value) (hx : a.eval x = .slice p m c) (hl : news.length = m * size)
    (hsrc : m = 0 ∨ ∃ ad, p = some ad ∧ ∀ j u, news[j]? = some u → w.cell? (ad.add j) = some u) (h1 : ∀ u ∈ news, u.oneCell' = true)
    (h63 : n + m ≤ maxLen) (hbytes : (n + m) * bytes ≤ 140737488355328) (hbase : base ≤ w.heap.size)
    (h : ∀ v' w', w'.ownsRow base e size v' (n + m) (xs ++ news) → w.grownBy w' v.ownBlock → wpList Tryz.prog ops Q rest (a.put o.dst v') w') :
    wpList Tryz.prog ops Q (o :: rest) a w := by
  rcases hsrc with rfl | ⟨ad, rfl, hc⟩
  · have hn : news = [] := List.length_eq_zero_iff.1 (by simpa using hl)
    subst hn
    obtain ⟨q, cap, hv, hcap, hq⟩ : ∃ q cap, v = .slice q n cap ∧ n ≤ cap ∧ (q = none → n = 0 ∧ cap = 0) := by
      rcases hown.2 with ⟨hv, h0⟩ | ⟨g, cap, cur, hv, _, _, hc, _⟩
      · exact ⟨none, 0, by rw [hv, h0], by omega, fun _ => ⟨h0, rfl⟩⟩
      · exact ⟨_, cap, hv, hc, fun h => by cases h⟩
    have hrun : (Builtin.append_ #[t, t] o.type #[.slice q n cap, .slice p 0 c]).run Tryz.prog w = .ok (.slice q n cap) w := by
      cases q with
      | none =>
        obtain ⟨rfl, rfl⟩ := hq rfl
        cases p <;> simp [Builtin.append_, run_underlying ht, Builtin.lenOf, Builtin.firstCells, sizeOf, typeInfo, hi, loadCells, loadCellsFrom]
      | some q =>
        cases p <;> simp [Builtin.append_, run_underlying ht, Builtin.lenOf, Builtin.firstCells, sizeOf, typeInfo, hi, storeCells, loadCells, loadCellsFrom, hcap]
    rw [hv] at hs
    refine wpList_plain hgd fun K hK' => ?_
    unfold Oper.wp
    simp [execOp, ho, resolve, invoke, builtin, hs, hx, hrun, Result.andThen]
    refine hK' _ _ (h _ _ ?_ (grownBy_refl _ _))
    rw [← hv, List.append_nil]
    exact hown
  · exact wpList_append_own _ hgd s x t ho base e i z size bytes ht hi hz hsize hby hzs hsz v n xs hs hown ad m c news hx hl hc h1 h63 hbytes hbase (fun v' w' h2 h3 _ => h v' w' h2 h3)
end Go.Proofs.YtmhlcnmfbolgdaaGreat

namespace Go.Proofs.YtmhlcnmfbolgdaaGreat
open Go.RowKit
structure Kind (α : Type) where
  T : TypeId
  k : Nat
  enc : α → List Value
  len : ∀ x, (enc x).length = k
  pos : 0 < k
  one : ∀ x, ∀ u ∈ enc x, u.oneCell' = true
def Kind.cells {α : Type} (K : Kind α) (d : List α) : List Value := d.flatMap K.enc
theorem Kind.cells_one {α : Type} (K : Kind α) (x : α) : K.cells [x] = K.enc x := by simp [Kind.cells]
theorem Kind.cells_append {α : Type} (K : Kind α) (a b : List α) : K.cells (a ++ b) = K.cells a ++ K.cells b := List.flatMap_append
theorem Kind.cells_len {α : Type} (K : Kind α) (d : List α) : (K.cells d).length = d.length * K.k := by
  induction d with
  | nil => simp [Kind.cells]
  | cons x d ih =>
    have e : K.cells (x :: d) = K.enc x ++ K.cells d := rfl
    rw [e, List.length_append, K.len, ih, List.length_cons, Nat.add_mul, Nat.one_mul, Nat.add_comm]
theorem Kind.cells_get {α : Type} (K : Kind α) (d : List α) (i : Nat) (h : i < d.length) (j : Nat) (hj : j < K.k) : (K.cells d)[i * K.k + j]? = (K.enc d[i])[j]? := by
  induction d generalizing i with
  | nil => simp at h
  | cons x d ih =>
    have e : K.cells (x :: d) = K.enc x ++ K.cells d := rfl
    rw [e]
    cases i with
    | zero => rw [Nat.zero_mul, Nat.zero_add, List.getElem?_append_left (by rw [K.len]; exact hj)]; rfl
    | succ i =>
      have hl : (K.enc x).length ≤ (i + 1) * K.k + j := by rw [K.len, Nat.add_mul, Nat.one_mul]; omega
      rw [List.getElem?_append_right hl, K.len]
      have e2 : (i + 1) * K.k + j - K.k = i * K.k + j := by rw [Nat.add_mul, Nat.one_mul]; omega
      rw [e2]
      exact ih i (by simpa using h)
theorem Kind.cells_ones {α : Type} (K : Kind α) (d : List α) : ∀ u ∈ K.cells d, u.oneCell' = true := by
  intro u hu
  obtain ⟨x, _, hx⟩ := List.mem_flatMap.1 hu
  exact K.one x u hx
def Kind.At {α : Type} (K : Kind α) (w : World) (b off : Nat) (d : List α) : Prop :=
  ∀ i, (h : i < d.length) → ∀ j u, (K.enc d[i])[j]? = some u → w.cell? ⟨b, off + i * K.k + j, none⟩ = some u
def Kind.Is {α : Type} (K : Kind α) (w : World) (v : Value) (d : List α) : Prop :=
  ∃ p cap, v = .slice p d.length cap ∧ (d = [] ∨ ∃ b off, p = some ⟨b, off, none⟩ ∧ K.At w b off d)
def Kind.Own {α : Type} (K : Kind α) (n0 : Nat) (w : World) (v : Value) (d : List α) : Prop := w.ownsRow n0 K.T K.k v d.length (K.cells d)
theorem Kind.at_kept {α : Type} {K : Kind α} {w w' : World} {b off : Nat} {d : List α} (h : K.At w b off d) (hb : Below w.heap.size w w') : K.At w' b off d :=
  fun i hi j u hu => (hb.cell (p := ⟨b, off + i * K.k + j, none⟩) (cell_block (h i hi j u hu))).trans (h i hi j u hu)
theorem Kind.is_kept {α : Type} {K : Kind α} {w w' : World} {v : Value} {d : List α} (h : K.Is w v d) (hb : Below w.heap.size w w') : K.Is w' v d := by
  obtain ⟨p, cap, rfl, h⟩ := h
  refine ⟨p, cap, rfl, ?_⟩
  rcases h with h | ⟨b, off, hp, h⟩
  · exact Or.inl h
  · exact Or.inr ⟨b, off, hp, K.at_kept h hb⟩
theorem Kind.is_nil {α : Type} (K : Kind α) (w : World) : K.Is w (.slice none 0 0) [] := ⟨none, 0, rfl, Or.inl rfl⟩
theorem Kind.own_nil {α : Type} (K : Kind α) (n0 : Nat) (w : World) : K.Own n0 w (.slice none 0 0) [] := World.ownsRow_nil _ _ _ _
theorem Kind.own_on {α : Type} {K : Kind α} {n0 : Nat} {w w' : World} {v : Value} {d : List α} (h : K.Own n0 w v d) (hb : Below w.heap.size w w') : K.Own n0 w' v d := _root_.Go.Proofs.YtmhlcnmfbolgdaaGreat.own_on h hb
theorem Kind.own_weak {α : Type} {K : Kind α} {n0 n1 : Nat} {w : World} {v : Value} {d : List α} (h : K.Own n0 w v d) (hn : n1 ≤ n0) : K.Own n1 w v d := _root_.Go.Proofs.YtmhlcnmfbolgdaaGreat.own_weak h hn
theorem Kind.own_shape {α : Type} {K : Kind α} {n0 : Nat} {w : World} {v : Value} {d : List α} (h : K.Own n0 w v d) : ∃ p cap, v = .slice p d.length cap := by
  rcases h.2 with ⟨hv, h0⟩ | ⟨g, cap, cur, hv, _⟩
  · exact ⟨none, 0, by rw [hv, h0]⟩
  · exact ⟨_, _, hv⟩
theorem Kind.own_is {α : Type} {K : Kind α} {n0 : Nat} {w : World} {v : Value} {d : List α} (h : K.Own n0 w v d) : K.Is w v d := by
  rcases h.2 with ⟨rfl, h0⟩ | ⟨g, c, cur, rfl, _, hg, _, _, hsz, htk⟩
  · obtain rfl := List.length_eq_zero_iff.1 h0
    exact K.is_nil w
  · refine ⟨_, c, rfl, Or.inr ⟨g, 0, rfl, fun i hi j u hu => ?_⟩⟩
    have hj : j < K.k := by
      have := (List.getElem?_eq_some_iff.1 hu).1
      rwa [K.len] at this
    have hlt : i * K.k + j < d.length * K.k := by
      have h1 : (i + 1) * K.k ≤ d.length * K.k := Nat.mul_le_mul_right _ hi
      rw [Nat.add_mul, Nat.one_mul] at h1
      omega
    rw [Nat.zero_add, cell_of_row w g _ cur _ _ hg, ← Array.getElem?_toList]
    have : (K.cells d)[i * K.k + j]? = cur.toList[i * K.k + j]? := by rw [← htk, List.getElem?_take, if_pos hlt]
    rw [← this, K.cells_get d i hi j hj, hu]
theorem Kind.src {α : Type} {K : Kind α} {w : World} {p : Option Addr} {d : List α} (h : d = [] ∨ ∃ b off, p = some ⟨b, off, none⟩ ∧ K.At w b off d) :
    d.length = 0 ∨ ∃ ad, p = some ad ∧ ∀ j u, (K.cells d)[j]? = some u → w.cell? (ad.add j) = some u := by
  rcases h with rfl | ⟨b, off, rfl, hx⟩
  · exact Or.inl rfl
  · refine Or.inr ⟨_, rfl, fun j u hu => ?_⟩
    have hj : j < d.length * K.k := by
      have := (List.getElem?_eq_some_iff.1 hu).1
      rwa [K.cells_len] at this
    have hk : j / K.k < d.length := (Nat.div_lt_iff_lt_mul K.pos).2 hj
    have hm : j % K.k < K.k := Nat.mod_lt _ K.pos
    have e : j / K.k * K.k + j % K.k = j := by rw [Nat.mul_comm]; exact Nat.div_add_mod j K.k
    have hg := K.cells_get d (j / K.k) hk (j % K.k) hm
    rw [e, hu] at hg
    have := hx (j / K.k) hk (j % K.k) u hg.symm
    rw [addr_add]
    rw [Nat.add_assoc, e] at this
    exact this
theorem Kind.news {α : Type} (K : Kind α) (w : World) (x : α) : ∀ j u, (K.cells [x])[j]? = some u → (w.alloc (.cells (K.enc x).toArray K.T)).cell? ((⟨w.heap.size, 0, none⟩ : Addr).add j) = some u := by
  intro j u hu
  rw [K.cells_one] at hu
  rw [addr_add, Nat.zero_add, cell_of_row _ _ _ _ _ _ (heap_alloc_new w _)]
  simpa using hu
theorem Kind.own_snoc {α : Type} {K : Kind α} {n0 : Nat} {w : World} {v : Value} {d : List α} {x : α} {n : Nat} {xs : List Value} (h : w.ownsRow n0 K.T K.k v n xs) (hn : n = d.length + 1) (hx : xs = K.cells d ++ K.cells [x]) : K.Own n0 w v (d ++ [x]) := by
  subst hn hx
  unfold Kind.Own
  rw [K.cells_append, List.length_append]
  exact h
end Go.Proofs.YtmhlcnmfbolgdaaGreat

namespace Go.Proofs.YtmhlcnmfbolgdaaGreat
open Go.RowKit
theorem own_same {w w' : World} {n0 : Nat} {e : TypeId} {size : Nat} {v : Value} {n : Nat} {xs : List Value} (h : w.ownsRow n0 e size v n xs) (hk : ∀ k, v.ownBlock = some k → w'.heap[k]? = w.heap[k]?) : w'.ownsRow n0 e size v n xs := by
  refine ⟨h.1, ?_⟩
  rcases h.2 with h2 | ⟨g, cap, cur, hv, h3, h4, h5⟩
  · exact Or.inl h2
  · exact Or.inr ⟨g, cap, cur, hv, h3, (hk g (by rw [hv]; rfl)).trans h4, h5⟩
structure Fr (P : Nat → Prop) (w W : World) : Prop where
  os : W.os = w.os
  tape : W.tape = w.tape
  output : W.output = w.output
  size : w.heap.size ≤ W.heap.size
  block : ∀ k, k < w.heap.size → ¬ P k → W.heap[k]? = w.heap[k]?
theorem Fr.refl (P : Nat → Prop) (w : World) : Fr P w w := ⟨rfl, rfl, rfl, Nat.le_refl _, fun _ _ _ => rfl⟩
theorem Fr.then {P Q : Nat → Prop} {a b c : World} (h : Fr P a b) (k : Fr Q b c) (hQ : ∀ k, Q k → P k ∨ a.heap.size ≤ k) : Fr P a c :=
  ⟨k.os.trans h.os, k.tape.trans h.tape, k.output.trans h.output, Nat.le_trans h.size k.size, fun j hj hn => (k.block j (Nat.lt_of_lt_of_le hj h.size) fun hq => by
    rcases hQ j hq with h1 | h1
    · exact hn h1
    · omega).trans (h.block j hj hn)⟩
theorem Fr.mono {P Q : Nat → Prop} {w W : World} (h : Fr P w W) (hPQ : ∀ k, P k → Q k) : Fr Q w W := ⟨h.os, h.tape, h.output, h.size, fun k hk hn => h.block k hk fun hp => hn (hPQ k hp)⟩
theorem Fr.of_below {P : Nat → Prop} {w W : World} (h : Below w.heap.size w W) : Fr P w W := ⟨h.os, h.tape, h.output, h.size, fun k hk _ => h.block k hk⟩
theorem Fr.of_grown {P : Nat → Prop} {w W : World} {ob : Option Nat} (h : w.grownBy W ob) (hP : ∀ k, ob = some k → P k) : Fr P w W :=
  ⟨h.os, h.tape, h.output, h.size, fun k hk hn => h.block k hk fun e => hn (hP k e.symm)⟩
theorem Fr.below {P : Nat → Prop} {w W : World} (h : Fr P w W) {N : Nat} (hN : N ≤ w.heap.size) (hP : ∀ k, P k → N ≤ k) : Below N w W :=
  ⟨h.os, h.tape, h.output, h.size, fun k hk => h.block k (by omega) fun hp => by have := hP k hp; omega⟩
theorem Fr.row {P : Nat → Prop} {w W : World} {n0 : Nat} {e : TypeId} {size : Nat} {v : Value} {n : Nat} {xs : List Value} (f : Fr P w W) (h : w.ownsRow n0 e size v n xs) (hP : ∀ k, v.ownBlock = some k → ¬ P k) : W.ownsRow n0 e size v n xs :=
  own_same h fun k hk => f.block k (World.ownsRow.lt h k hk).2 (hP k hk)
theorem Fr.cell {P : Nat → Prop} {w W : World} {a : Addr} {v : Value} (f : Fr P w W) (h : w.cell? a = some v) (hP : ¬ P a.block) : W.cell? a = some v :=
  (World.cell?_of_block (f.block a.block (cell_block h) hP)).trans h
end Go.Proofs.YtmhlcnmfbolgdaaGreat

namespace Go.Proofs.YtmhlcnmfbolgdaaGreat
open Go.RowKit Go.Lib
theorem cellsX_set (o : List Fx) (i : Nat) (h : i < o.length) (x : Fx) : cellsX (o.set i x) = ((cellsX o).set (i * 2) (.string x.name)).set (i * 2 + 1) x.sl := by
  induction o generalizing i with
  | nil => simp at h
  | cons y o ih =>
    have e : ∀ z l, cellsX (z :: l) = .string z.name :: z.sl :: cellsX l := fun _ _ => rfl
    cases i with
    | zero => rw [List.set_cons_zero, e, e]; rfl
    | succ i =>
      rw [List.set_cons_succ, e, e, ih i (by simpa using h), show (i + 1) * 2 = i * 2 + 1 + 1 by omega]
      rfl
def encSt (x : ByteArray) : List Value := [.string x]
def KT : Kind ByteArray := ⟨9, 1, encSt, fun _ => rfl, by decide, fun x u hu => by simp [encSt] at hu; subst hu; rfl⟩
theorem own_noneX (N : Nat) (w : World) : OwnJ N w (.slice none 0 0) [] := ⟨⟨World.ownsRow_nil _ _ _ _, fun x hx => by simp at hx⟩, List.Pairwise.nil⟩
def CopyX (d : List Fx) : Prop := d.length * 40 ≤ 140737488355328 ∧ ∀ x ∈ d, x.txt.length * 16 ≤ 140737488355328
theorem own_weakJ {N M : Nat} {w : World} {u : Value} {o : List Fx} (h : OwnJ N w u o) (hm : M ≤ N) : OwnJ M w u o := ⟨⟨own_weak h.1.1 hm, fun x hx => own_weak (h.1.2 x hx) hm⟩, h.2⟩
end Go.Proofs.YtmhlcnmfbolgdaaGreat

namespace Go.Proofs.YtmhlcnmfbolgdaaGreat
open Go.ChangeShapes Go.WideShapes Go.ChangeAt Go.RowKit Go.Lib Go.Deep Go.Joins
theorem Tryz.own : ownKnob Tryz.prog.godebug = none := by kernel_rfl
theorem Tryz.laidOut : laidOutB Tryz.prog = true := by kernel_rfl
theorem Tryz.cellsFld : Tryz.prog.cellsOf 131 = 2 := by kernel_rfl
theorem Tryz.cellsStr : Tryz.prog.cellsOf 9 = 1 := by kernel_rfl
theorem Tryz.cellsStrs : Tryz.prog.cellsOf 129 = 1 := by kernel_rfl
end Go.Proofs.YtmhlcnmfbolgdaaGreat

namespace Go.Proofs.YtmhlcnmfbolgdaaGreat
open Go.ChangeShapes Go.WideShapes Go.ChangeAt Go.RowKit Go.Lib Go.Deep Go.Joins
theorem Tryz.bytesStr : Tryz.prog.bytesOf 9 = 16 := by kernel_rfl
theorem Tryz.bytesFld : Tryz.prog.bytesOf 131 = 40 := by kernel_rfl
theorem weights_all {H : Type} {P : Program} {e : TypeId} {d : DataW H} {n : Nat} (hn : n ∈ d.weights P e) : ∀ {l : List (DataW H)}, d ∈ l → n ∈ DataW.weightsAll P e l
  | x :: r, h => by
    simp only [DataW.weightsAll, List.mem_append]
    rcases List.mem_cons.1 h with rfl | h
    · exact Or.inl hn
    · exact Or.inr (weights_all hn h)
theorem open_txtZ {H : Type} {enc : TypeId × Value → H} {W : World} {f : Nat} {v : Value} {x : DataW H × List MemPlace} (h : DataW.trod enc Tryz.prog W 0 (fun _ => true) true f 129 [v] = some x) :
    ∃ p cap, ∃ ts : List ByteArray, v = .slice p ts.length cap ∧ TxtAt W p ts ∧ FitT ts ∧ (ts.length = 0 ∨ ∃ n ∈ x.1.weights Tryz.prog 129, ts.length * 16 ≤ n) := by
  rcases open_strings Tryz.underlying129 Tryz.underlying9 Tryz.cellsStr h with ⟨hcs, hx⟩ | ⟨a, l, c, ss, hcs, _, hl, hm, hz, hx, hcell, hws⟩
  · simp at hcs
    exact ⟨none, 0, [], hcs, Or.inl rfl, ⟨by unfold maxLen; simp, fun t ht => by simp at ht⟩, Or.inl rfl⟩
  · simp at hcs
    have hz' : ss.length = c := by simpa using hz
    have hlen : (ss.take l).length = l := by rw [List.length_take]; omega
    refine ⟨some a, c, ss.take l, by rw [hlen]; exact hcs, ?_, ⟨by omega, fun t ht => hws t (List.mem_of_mem_take ht)⟩, Or.inr ?_⟩
    · by_cases h0 : l = 0
      · subst h0; exact Or.inl rfl
      · right
        have hc0 := hcell 0 (by omega)
        obtain ⟨b, off, spot⟩ := a
        have hspot : spot = none := by simpa [Addr.add] using World.cell?_spot hc0
        subst hspot
        refine ⟨b, off, rfl, fun i hi => ?_⟩
        rw [hlen] at hi
        have := hcell i (by omega)
        rw [addr_add] at this
        rw [this, List.getElem_take, List.getD_eq_getElem?_getD, List.getElem?_eq_getElem (by omega)]
        rfl
    · rw [hx, hlen]
      simp only [DataW.weights, Tryz.underlying129]
      refine ⟨_, List.mem_cons_self, ?_⟩
      rw [Tryz.bytesStr]
      have hb2 : (strs (ss.take l) : List (DataW H)).length = l := by rw [show (strs (ss.take l) : List (DataW H)).length = (ss.take l).length by simp [strs], hlen]
      rw [hb2]
      exact Nat.mul_le_mul_right 16 (by omega)
set_option maxRecDepth 100000 in
theorem open_fldsZ {H : Type} {enc : TypeId × Value → H} {W : World} {fuel : Nat} {v : Value} {dd : DataW H} {p : List MemPlace}
    (hf : DataW.trod enc Tryz.prog W 0 (fun _ => true) true fuel 40 [v] = some (dd, p)) (hZ : ∀ n ∈ dd.weights Tryz.prog 40, n ≤ reachBytes) : ∃ d : List Fx, IsXs W v d ∧ FitX d ∧ CopyX d := by
  have hrb := reachBytes_lt
  rcases open_slice_pairs Tryz.underlying40 Tryz.underlying131 Tryz.cellsFld rfl rfl Tryz.cellsStr Tryz.cellsStrs hf with ⟨hcs, _⟩ | ⟨a, len, cap, m, n, V0, V1, D0, D1, P0, P1, hcs, _, hl, hm, hmm, hdat, hall⟩
  · simp at hcs
    subst hcs
    exact ⟨[], ⟨none, 0, rfl, Or.inl rfl, fun x hx => by simp at hx⟩, ⟨by unfold maxLen; simp, fun x hx => by simp at hx⟩, by simp, fun x hx => by simp at hx⟩
  · simp at hcs
    subst hcs
    have hm' : m = cap := by simpa using hmm
    subst hm'
    have each : ∀ i, i < m → ∃ x : Fx, V0 i = .string x.name ∧ V1 i = x.sl ∧ TxtAt W x.p x.txt ∧ FitF x.fld ∧ (x.txt.length = 0 ∨ ∃ n ∈ (D1 i).weights Tryz.prog 129, x.txt.length * 16 ≤ n) := by
      intro i hi
      obtain ⟨_, _, h3, h4⟩ := hall i hi
      obtain ⟨s, e0, _, hs⟩ := DataW.trod_string Tryz.underlying9 h3
      simp only [List.cons.injEq, and_true] at e0
      obtain ⟨q, cc, ts, e1, ht, hft, hbk⟩ := open_txtZ h4
      exact ⟨⟨s, q, cc, ts⟩, e0, e1, ht, ⟨hs, hft⟩, hbk⟩
    have hdd : dd = .slice ((List.range len).map fun i => .agg [D0 i, D1 i]) ((List.range (m - len)).map fun j => .agg [D0 (len + j), D1 (len + j)]) := congrArg Prod.fst hdat
    have hwl : len * 40 ≤ reachBytes := by
      have := hZ ((((List.range len).map fun i => DataW.agg [D0 i, D1 i]).length + ((List.range (m - len)).map fun j => DataW.agg [D0 (len + j), D1 (len + j)]).length) * Tryz.prog.bytesOf 131) (by
        rw [hdd]
        simp only [DataW.weights, Tryz.underlying40]
        exact List.mem_cons_self)
      rw [Tryz.bytesFld] at this
      simp only [List.length_map, List.length_range] at this
      omega
    have hwi : ∀ i, i < len → ∀ n ∈ (D1 i).weights Tryz.prog 129, n ≤ reachBytes := fun i hi n hn => by
      refine hZ n ?_
      rw [hdd]
      simp only [DataW.weights, Tryz.underlying40]
      refine List.mem_cons_of_mem _ (List.mem_append.2 (Or.inl (weights_all (d := .agg [D0 i, D1 i]) ?_ (List.mem_map.2 ⟨i, List.mem_range.2 hi, rfl⟩))))
      simp only [DataW.weights, Tryz.underlying131]
      exact List.mem_append.2 (Or.inr (List.mem_append.2 (Or.inl hn)))
    by_cases h0 : len = 0
    · subst h0
      exact ⟨[], ⟨_, _, rfl, Or.inl rfl, fun x hx => by simp at hx⟩, ⟨by unfold maxLen; simp, fun x hx => by simp at hx⟩, by simp, fun x hx => by simp at hx⟩
    · have hc0 := (hall 0 (by omega)).1
      obtain ⟨b, off, spot⟩ := a
      have hspot : spot = none := by simpa [Addr.add] using World.cell?_spot hc0
      subst hspot
      let f : Nat → Fx := fun i => if h : i < m then (each i h).choose else default
      have fs : ∀ i (h : i < m), V0 i = .string (f i).name ∧ V1 i = (f i).sl ∧ TxtAt W (f i).p (f i).txt ∧ FitF (f i).fld ∧ ((f i).txt.length = 0 ∨ ∃ n ∈ (D1 i).weights Tryz.prog 129, (f i).txt.length * 16 ≤ n) := fun i h => by
        have e : f i = (each i h).choose := dif_pos h
        rw [e]
        exact (each i h).choose_spec
      have hlen : ((List.range len).map f).length = len := by simp
      refine ⟨(List.range len).map f, ⟨_, m, by rw [hlen], Or.inr ⟨b, off, rfl, fun i hi => ?_⟩, fun x hx => ?_⟩, ⟨by rw [hlen]; omega, fun x hx => ?_⟩, by rw [hlen]; omega, fun x hx => ?_⟩
      · have hi0 : i < len := by simpa using hi
        obtain ⟨h1, h2, _, _⟩ := hall i (by omega)
        obtain ⟨g1, g2, _⟩ := fs i (by omega)
        rw [addr_add] at h1 h2
        have ef : ((List.range len).map f)[i]'hi = f i := by simp
        rw [ef, h1, ← g1]
        refine ⟨rfl, ?_⟩
        rw [Nat.add_assoc, h2, g2]
      · obtain ⟨i, hi, rfl⟩ := List.mem_map.1 hx
        exact (fs i (by have := List.mem_range.1 hi; omega)).2.2.1
      · obtain ⟨i, hi, rfl⟩ := List.mem_map.1 hx
        exact (fs i (by have := List.mem_range.1 hi; omega)).2.2.2.1
      · obtain ⟨i, hi, rfl⟩ := List.mem_map.1 hx
        have hil := List.mem_range.1 hi
        rcases (fs i (by omega)).2.2.2.2 with h | ⟨n, hn, h⟩
        · omega
        · have := hwi i hil n hn
          omega
set_option maxRecDepth 100000 in
theorem open_fieldsZ {H : Type} {enc : TypeId × Value → H} {W : World} {b0 : Nat} {v : Value} {dd : DataW H} {p : List MemPlace}
    (hv : Value.okWide Tryz.prog W .any b0 40 v) (h : DataW.Trod enc Tryz.prog W 0 (fun _ => true) true 40 v dd p) (hZ : ∀ n ∈ dd.weights Tryz.prog 40, n ≤ reachBytes) : ∃ d : List Fx, IsXs W v d ∧ FitX d ∧ CopyX d := by
  obtain ⟨a0, len, cap, rfl⟩ := okWide_slice Tryz.underlying40 hv
  obtain ⟨fuel, hf⟩ := h
  exact open_fldsZ (by simpa [Value.cells] using hf) hZ
end Go.Proofs.YtmhlcnmfbolgdaaGreat

namespace Go.Proofs.YtmhlcnmfbolgdaaGreat
structure Vr where
  num : Int
  stamp : Int
  tick : Int
  live : Bool
  val : List (ByteArray × List ByteArray)
  deriving Inhabited, DecidableEq
def zeroV : Vr := ⟨0, 0, 0, false, []⟩
def cutV (l : List Vr) (t : Int) : Nat := (l.takeWhile fun v => decide (v.stamp ≤ t)).length
def atV (l : List Vr) (t : Int) : Option Vr := if cutV l t = 0 then none else l[cutV l t - 1]?
def sinceV (l : List Vr) (t : Int) : List Vr := l.drop (cutV l t)
def pruneN (l : List Vr) (f : Int) : Nat := cutV l f - 1
def pruneV (l : List Vr) (f : Int) : List Vr := l.drop (pruneN l f)
def RiseV (l : List Vr) : Prop := l.Pairwise fun a b => a.stamp < b.stamp
structure OkV (l : List Vr) : Prop where
  rise : RiseV l
  nums : ∀ i, (h : i + 1 < l.length) → (l[i + 1]).num = (l[i]'(by omega)).num + 1
  two : ∀ i, (h : i + 1 < l.length) → (l[i + 1]).live = true ∨ (l[i]'(by omega)).live = true
  first : ∀ v ∈ l, 1 ≤ v.num ∧ 0 < v.stamp ∧ (v.num = 1 → v.live = true) ∧ (v.live = false → v.val = [])
theorem rise_lt {l : List Vr} (h : RiseV l) {i j : Nat} (hij : i < j) (hj : j < l.length) : (l[i]'(by omega)).stamp < (l[j]).stamp := List.pairwise_iff_getElem.1 h i j (by omega) hj hij
theorem cutV_le (l : List Vr) (t : Int) : cutV l t ≤ l.length := by
  unfold cutV
  exact (List.takeWhile_prefix _).length_le
theorem cutV_cons (v : Vr) (l : List Vr) (t : Int) : cutV (v :: l) t = if v.stamp ≤ t then cutV l t + 1 else 0 := by
  unfold cutV
  by_cases h : v.stamp ≤ t
  · rw [List.takeWhile_cons_of_pos (by simpa using h), if_pos h]; rfl
  · rw [List.takeWhile_cons_of_neg (by simpa using h), if_neg h]; rfl
theorem cutV_below : ∀ (l : List Vr) (t : Int) (i : Nat) (h : i < l.length), i < cutV l t → (l[i]).stamp ≤ t
  | [], _, i, h, _ => by simp at h
  | v :: l, t, i, h, hc => by
    rw [cutV_cons] at hc
    by_cases hv : v.stamp ≤ t
    · rw [if_pos hv] at hc
      cases i with
      | zero => exact hv
      | succ i => exact cutV_below l t i (by simpa using h) (by omega)
    · rw [if_neg hv] at hc; omega
theorem cutV_above : ∀ (l : List Vr), RiseV l → ∀ (t : Int) (i : Nat) (h : i < l.length), cutV l t ≤ i → t < (l[i]).stamp
  | [], _, _, i, h, _ => by simp at h
  | v :: l, hr, t, i, h, hc => by
    obtain ⟨h1, h2⟩ := List.pairwise_cons.1 hr
    rw [cutV_cons] at hc
    by_cases hv : v.stamp ≤ t
    · rw [if_pos hv] at hc
      cases i with
      | zero => omega
      | succ i => exact cutV_above l h2 t i (by simpa using h) (by omega)
    · cases i with
      | zero => exact Int.not_le.1 hv
      | succ i =>
        have := h1 (l[i]'(by simpa using h)) (List.getElem_mem _)
        simp only [List.getElem_cons_succ]
        omega
theorem cutV_uniq {l : List Vr} (hr : RiseV l) {t : Int} {n : Nat} (hn : n ≤ l.length) (h1 : ∀ i, (h : i < l.length) → i < n → (l[i]).stamp ≤ t) (h2 : ∀ i, (h : i < l.length) → n ≤ i → t < (l[i]).stamp) : cutV l t = n := by
  have hc := cutV_le l t
  rcases Nat.lt_trichotomy (cutV l t) n with h | h | h
  · have a := h1 (cutV l t) (by omega) h
    have b := cutV_above l hr t (cutV l t) (by omega) (Nat.le_refl _)
    omega
  · exact h
  · have a := h2 n (by omega) (Nat.le_refl _)
    have b := cutV_below l t n (by omega) h
    omega
theorem rise_drop {l : List Vr} (h : RiseV l) (n : Nat) : RiseV (l.drop n) := h.sublist (List.drop_sublist n l)
theorem cutV_drop {l : List Vr} (hr : RiseV l) {t : Int} {n : Nat} (hn : n ≤ cutV l t) : cutV (l.drop n) t = cutV l t - n := by
  have hc := cutV_le l t
  refine cutV_uniq (rise_drop hr n) (by rw [List.length_drop]; omega) (fun i h hi => ?_) (fun i h hi => ?_)
  · rw [List.length_drop] at h
    rw [List.getElem_drop]
    exact cutV_below l t _ (by omega) (by omega)
  · rw [List.length_drop] at h
    rw [List.getElem_drop]
    exact cutV_above l hr t _ (by omega) (by omega)
theorem cutV_mono {l : List Vr} (hr : RiseV l) {t u : Int} (h : t ≤ u) : cutV l t ≤ cutV l u := by
  have hc := cutV_le l t
  have hd := cutV_le l u
  rcases Nat.lt_or_ge (cutV l u) (cutV l t) with hlt | hge
  · have a := cutV_below l t (cutV l u) (by omega) hlt
    have b := cutV_above l hr u (cutV l u) (by omega) (Nat.le_refl _)
    omega
  · exact hge
theorem prune_at {l : List Vr} (hr : RiseV l) {f t : Int} (h : f ≤ t) : atV (pruneV l f) t = atV l t := by
  have hm := cutV_mono hr h
  unfold atV pruneV pruneN
  rw [cutV_drop hr (by omega)]
  by_cases h0 : cutV l t = 0
  · rw [if_pos h0, if_pos (by omega)]
  · by_cases h1 : cutV l f = 0
    · rw [h1]; simp
    · rw [if_neg h0, if_neg (by omega), List.getElem?_drop]
      congr 1
      omega
theorem prune_last (l : List Vr) (f : Int) : (pruneV l f).getLast? = l.getLast? := by
  unfold pruneV pruneN
  have hc := cutV_le l f
  rw [List.getLast?_eq_getElem?, List.getLast?_eq_getElem?, List.getElem?_drop, List.length_drop]
  by_cases h0 : l.length = 0
  · rw [List.length_eq_zero_iff.1 h0]; simp
  · congr 1
    omega
theorem prune_len (l : List Vr) (f : Int) : (pruneV l f).length = l.length - pruneN l f := by unfold pruneV; rw [List.length_drop]
theorem ok_nil : OkV [] := ⟨List.Pairwise.nil, fun i h => by simp at h, fun i h => by simp at h, fun v h => by cases h⟩
theorem ok_drop {l : List Vr} (h : OkV l) (n : Nat) : OkV (l.drop n) := by
  refine ⟨rise_drop h.rise n, fun i hi => ?_, fun i hi => ?_, fun v hv => h.first v (List.mem_of_mem_drop hv)⟩
  · rw [List.length_drop] at hi
    rw [List.getElem_drop, List.getElem_drop]
    exact h.nums (n + i) (by omega)
  · rw [List.length_drop] at hi
    rw [List.getElem_drop, List.getElem_drop]
    exact h.two (n + i) (by omega)
theorem ok_prune {l : List Vr} (h : OkV l) (f : Int) : OkV (pruneV l f) := ok_drop h _
theorem ok_num {l : List Vr} (h : OkV l) : ∀ i, (hi : i < l.length) → (l[i]).num = (l[0]'(by omega)).num + i
  | 0, _ => by simp
  | i + 1, hi => by
    rw [h.nums i hi, ok_num h i (by omega)]
    omega
def lastV (l : List Vr) : Vr := l.getLast?.getD zeroV
def putCode (old field none : Int) (may : Bool) (l : List Vr) (stamp : Int) (live : Bool) : Int :=
  if stamp = 0 ∨ stamp ≤ (lastV l).stamp then old else if live = true ∧ may = false then field else if live = false ∧ (lastV l).live = false then none else 0
def putV (l : List Vr) (stamp tick : Int) (live : Bool) (val : List (ByteArray × List ByteArray)) : List Vr := l ++ [⟨(lastV l).num + 1, stamp, tick, live, if live then val else []⟩]
theorem lastV_snoc (l : List Vr) (v : Vr) : lastV (l ++ [v]) = v := by simp [lastV]
theorem lastV_get {l : List Vr} (h : 0 < l.length) : lastV l = l[l.length - 1] := by
  unfold lastV
  rw [List.getLast?_eq_getElem?, List.getElem?_eq_getElem (by omega)]
  rfl
theorem ok_put {l : List Vr} (h : OkV l) {old field none : Int} {may : Bool} {stamp tick : Int} {live : Bool} {val : List (ByteArray × List ByteArray)} (h0 : 0 ≤ stamp) (e1 : old ≠ 0) (e2 : field ≠ 0) (e3 : none ≠ 0) (hc : putCode old field none may l stamp live = 0) : OkV (putV l stamp tick live val) := by
  unfold putCode at hc
  split at hc
  · exact absurd hc e1
  · next hs =>
    split at hc
    · exact absurd hc e2
    · split at hc
      · exact absurd hc e3
      · next hl =>
        have hl' : live = true ∨ (lastV l).live = true := by
          cases live
          · right
            cases hx : (lastV l).live
            · exact absurd ⟨rfl, hx⟩ hl
            · rfl
          · exact Or.inl rfl
        have hs' : ¬ stamp = 0 ∧ (lastV l).stamp < stamp := ⟨fun e => hs (Or.inl e), Int.not_le.1 fun e => hs (Or.inr e)⟩
        refine ⟨?_, fun i hi => ?_, fun i hi => ?_, fun v hv => ?_⟩
        · refine List.pairwise_append.2 ⟨h.rise, List.pairwise_singleton _ _, fun a ha b hb => ?_⟩
          rw [List.mem_singleton] at hb
          subst hb
          obtain ⟨i, hi, rfl⟩ := List.mem_iff_getElem.1 ha
          have hg := lastV_get (l := l) (by omega)
          show (l[i]).stamp < stamp
          rcases Nat.lt_or_ge i (l.length - 1) with hlt | hge
          · have := rise_lt h.rise hlt (by omega)
            rw [hg] at hs'
            omega
          · have e : i = l.length - 1 := by omega
            subst e
            rw [hg] at hs'
            exact hs'.2
        · unfold putV at hi ⊢
          rw [List.length_append, List.length_singleton] at hi
          rcases Nat.lt_or_ge (i + 1) l.length with hlt | hge
          · rw [List.getElem_append_left hlt, List.getElem_append_left (by omega)]
            exact h.nums i hlt
          · have e : i = l.length - 1 := by omega
            subst e
            rw [List.getElem_append_right (by omega), List.getElem_append_left (by omega)]
            simp only [List.getElem_singleton]
            rw [lastV_get (by omega)]
        · unfold putV at hi ⊢
          rw [List.length_append, List.length_singleton] at hi
          rcases Nat.lt_or_ge (i + 1) l.length with hlt | hge
          · rw [List.getElem_append_left hlt, List.getElem_append_left (by omega)]
            exact h.two i hlt
          · have e : i = l.length - 1 := by omega
            subst e
            rw [List.getElem_append_right (by omega), List.getElem_append_left (by omega)]
            simp only [List.getElem_singleton]
            rw [lastV_get (by omega)] at hl'
            exact hl'
        · unfold putV at hv
          rw [List.mem_append, List.mem_singleton] at hv
          rcases hv with hv | rfl
          · exact h.first v hv
          · have hn : 0 ≤ (lastV l).num ∧ ((lastV l).live = true → 1 ≤ (lastV l).num) := by
              rcases Nat.eq_zero_or_pos l.length with e | e
              · obtain rfl := List.length_eq_zero_iff.1 e
                exact ⟨Int.le_refl _, fun h => by cases h⟩
              · rw [lastV_get e]
                have := (h.first _ (List.getElem_mem (show l.length - 1 < l.length by omega))).1
                exact ⟨by omega, fun _ => this⟩
            refine ⟨by show 1 ≤ (lastV l).num + 1; omega, by show 0 < stamp; omega, fun e => ?_, fun e => ?_⟩
            · show live = true
              rcases hl' with hl' | hl'
              · exact hl'
              · have := hn.2 hl'
                have e' : (lastV l).num + 1 = 1 := e
                omega
            · have e' : live = false := e
              show (if live = true then val else []) = []
              rw [e']; rfl
end Go.Proofs.YtmhlcnmfbolgdaaGreat

namespace Go.Proofs.YtmhlcnmfbolgdaaGreat
open Go.RowKit
structure Vx where
  num : Int
  stamp : Int
  tick : Int
  live : Bool
  p : Option Addr
  cap : Nat
  o : List Fx
  deriving Inhabited
def Vx.sl (x : Vx) : Value := .slice x.p x.o.length x.cap
def Vx.ver (x : Vx) : Vr := ⟨x.num, x.stamp, x.tick, x.live, x.o.map Fx.fld⟩
def Vx.at (w : World) (x : Vx) : Prop := IsXs w x.sl x.o
def encVx (x : Vx) : List Value := [.int .i64 x.num, .int .u64 x.stamp, .int .i64 x.tick, .bool x.live, x.sl]
def KV : Kind Vx := ⟨46, 5, encVx, fun _ => rfl, by decide, fun x u hu => by simp [encVx, Vx.sl] at hu; rcases hu with rfl | rfl | rfl | rfl | rfl <;> rfl⟩
theorem kv_at {w : World} {b off : Nat} {d : List Vx} (h : KV.At w b off d) (i : Nat) (hi : i < d.length) :
    w.cell? ⟨b, off + i * 5, none⟩ = some (.int .i64 (d[i]).num) ∧ w.cell? ⟨b, off + i * 5 + 1, none⟩ = some (.int .u64 (d[i]).stamp) ∧ w.cell? ⟨b, off + i * 5 + 2, none⟩ = some (.int .i64 (d[i]).tick) ∧ w.cell? ⟨b, off + i * 5 + 3, none⟩ = some (.bool (d[i]).live) ∧ w.cell? ⟨b, off + i * 5 + 4, none⟩ = some (d[i]).sl :=
  ⟨h i hi 0 _ rfl, h i hi 1 _ rfl, h i hi 2 _ rfl, h i hi 3 _ rfl, h i hi 4 _ rfl⟩
def CellsV (w : World) (b a : Nat) (x : Vx) : Prop := w.cell? ⟨b, a, none⟩ = some (.int .i64 x.num) ∧ w.cell? ⟨b, a + 1, none⟩ = some (.int .u64 x.stamp) ∧ w.cell? ⟨b, a + 2, none⟩ = some (.int .i64 x.tick) ∧ w.cell? ⟨b, a + 3, none⟩ = some (.bool x.live) ∧ w.cell? ⟨b, a + 4, none⟩ = some x.sl
end Go.Proofs.YtmhlcnmfbolgdaaGreat

namespace Go.Proofs.YtmhlcnmfbolgdaaGreat
open Go.RowKit
set_option maxHeartbeats 1000000 in
theorem id_any (n : Int) (w : World) : Calls Tryz.prog 301 #[.int .u8 n] w fun e w' => e = .returned (.bool (idB n)) ∧ w' = w := by
  go_enter Tryz.func301, Tryz.ntmps301
  go_wp2
  all_goals go_ret
  all_goals refine ⟨ret_bool ?_, rfl⟩
  all_goals (rw [Bool.eq_iff_iff]; simp_all [idB, lodB, digB, letB, bigB, smallB]; try omega)
set_option maxHeartbeats 1000000 in
theorem spelled_type (s : ByteArray) (w : World) (hs : s.size ≤ maxLen) :
    Calls Tryz.prog 298 #[.string s, .func (.func 299) #[] #[], .func (.func 300) #[] #[]] w fun e w' => e = .returned (.bool (typeB s.data.toList)) ∧ w' = w := by
  unfold maxLen at hs
  by_cases he : s.size = 0
  · have hb := spell_empty bigB letB s he
    have hlt : (s.size : Int) < 1 := by omega
    have HB : Hid (spell bigB letB s.data.toList = false) := hb
    clear he hb
    go_enter Tryz.func298, Tryz.ntmps298
    go_wp2_with fail
    go_ret
    exact ⟨ret_bool HB.out.symm, rfl⟩
  have hpos : 0 < s.size := by omega
  have hnl : ¬ (s.size : Int) < 1 := by omega
  by_cases hl : 32 < s.size
  · have hb := spell_long bigB letB s hl
    have HB : Hid (spell bigB letB s.data.toList = false) := hb
    have hgt : (32 : Int) < (s.size : Int) := by omega
    clear he hb
    go_enter Tryz.func298, Tryz.ntmps298
    go_wp2_with fail
    go_ret
    exact ⟨ret_bool HB.out.symm, rfl⟩
  have hle : ¬ (32 : Int) < (s.size : Int) := by omega
  clear he
  cases hc : bigB (s[0].toNat : Int) with
  | false =>
    have HB : Hid (spell bigB letB s.data.toList = false) := spell_first bigB letB s hpos hc
    go_enter Tryz.func298, Tryz.ntmps298
    go_wp2_with (go_at_call 299; refine (big_any _ _).mono ?_; rintro e w' ⟨rfl, rfl⟩)
    go_ret
    exact ⟨ret_bool HB.out.symm, rfl⟩
  | true =>
    have HT : Hid ((∀ k, 1 ≤ k → (hk : k < s.size) → letB (s[k].toNat : Int) = true) → spell bigB letB s.data.toList = true) := spell_true bigB letB s hpos (by omega) hc
    have HA : Hid (∀ k, 1 ≤ k → (hk : k < s.size) → letB (s[k].toNat : Int) = false → spell bigB letB s.data.toList = false) := fun k h1 hk => spell_at bigB letB s k h1 hk
    go_enter Tryz.func298, Tryz.ntmps298
    go_wp2_with (go_at_call 299; refine (big_any _ _).mono ?_; rintro e w' ⟨rfl, rfl⟩)
    go_loop [7] (fun i => ∃ k : Nat, 1 ≤ k ∧ k ≤ s.size ∧ i = .int .i64 k ∧ (∀ j, 1 ≤ j → j < k → (hj : j < s.size) → letB (s[j].toNat : Int) = true)) (fun i => s.size - (intOf i).toNat)
    case atStart => exact ⟨1, by omega, by omega, rfl, fun j h1 h2 => by omega⟩
    case round =>
      obtain ⟨k, hk1, hk, rfl, hall⟩ := hrel
      have HL : Hid (∀ j, 1 ≤ j → j < k → (hj : j < s.size) → letB (s[j].toNat : Int) = true) := hall
      clear hall
      by_cases hlt : k < s.size
      · cases hd : letB (s[k].toNat : Int) with
        | false =>
          go_wp2_with (go_at_call 300; refine (letter_any _ _).mono ?_; rintro e w' ⟨rfl, rfl⟩)
          go_ret
          exact ⟨ret_bool (HA.out k hk1 hlt hd).symm, rfl⟩
        | true =>
          go_wp2_with (go_at_call 300; refine (letter_any _ _).mono ?_; rintro e w' ⟨rfl, rfl⟩)
          go_round
          case rel =>
            refine ⟨k + 1, by omega, by omega, by go_num, fun j h1 h2 hj => ?_⟩
            by_cases hjk : j = k
            · subst hjk; exact hd
            · exact HL.out j h1 (by omega) hj
          case measure => simp [intOf]; omega
      · go_wp2_with fail
        go_ret
        exact ⟨ret_bool (HT.out fun j h1 hj => HL.out j h1 (by omega) hj).symm, rfl⟩
set_option maxHeartbeats 1000000 in
theorem type_any (s : ByteArray) (w : World) (hs : s.size ≤ maxLen) :
    Calls Tryz.prog 222 #[.string s] w fun e w' => e = .returned (.bool (typeB s.data.toList)) ∧ w' = w := by
  go_enter Tryz.func222, Tryz.ntmps222
  go_wp2_with (go_at_call 298; refine (spelled_type _ _ hs).mono ?_; rintro e w' ⟨rfl, rfl⟩)
  go_ret
  exact ⟨rfl, rfl⟩
set_option maxHeartbeats 1000000 in
theorem spelled_iden (s : ByteArray) (w : World) (hs : s.size ≤ maxLen) :
    Calls Tryz.prog 298 #[.string s, .func (.func 301) #[] #[], .func (.func 301) #[] #[]] w fun e w' => e = .returned (.bool (idenB s.data.toList)) ∧ w' = w := by
  unfold maxLen at hs
  by_cases he : s.size = 0
  · have hb := spell_empty idB idB s he
    have hlt : (s.size : Int) < 1 := by omega
    have HB : Hid (spell idB idB s.data.toList = false) := hb
    clear he hb
    go_enter Tryz.func298, Tryz.ntmps298
    go_wp2_with fail
    go_ret
    exact ⟨ret_bool HB.out.symm, rfl⟩
  have hpos : 0 < s.size := by omega
  have hnl : ¬ (s.size : Int) < 1 := by omega
  by_cases hl : 32 < s.size
  · have hb := spell_long idB idB s hl
    have HB : Hid (spell idB idB s.data.toList = false) := hb
    have hgt : (32 : Int) < (s.size : Int) := by omega
    clear he hb
    go_enter Tryz.func298, Tryz.ntmps298
    go_wp2_with fail
    go_ret
    exact ⟨ret_bool HB.out.symm, rfl⟩
  have hle : ¬ (32 : Int) < (s.size : Int) := by omega
  clear he
  cases hc : idB (s[0].toNat : Int) with
  | false =>
    have HB : Hid (spell idB idB s.data.toList = false) := spell_first idB idB s hpos hc
    go_enter Tryz.func298, Tryz.ntmps298
    go_wp2_with (go_at_call 301; refine (id_any _ _).mono ?_; rintro e w' ⟨rfl, rfl⟩)
    go_ret
    exact ⟨ret_bool HB.out.symm, rfl⟩
  | true =>
    have HT : Hid ((∀ k, 1 ≤ k → (hk : k < s.size) → idB (s[k].toNat : Int) = true) → spell idB idB s.data.toList = true) := spell_true idB idB s hpos (by omega) hc
    have HA : Hid (∀ k, 1 ≤ k → (hk : k < s.size) → idB (s[k].toNat : Int) = false → spell idB idB s.data.toList = false) := fun k h1 hk => spell_at idB idB s k h1 hk
    go_enter Tryz.func298, Tryz.ntmps298
    go_wp2_with (go_at_call 301; refine (id_any _ _).mono ?_; rintro e w' ⟨rfl, rfl⟩)
    go_loop [7] (fun i => ∃ k : Nat, 1 ≤ k ∧ k ≤ s.size ∧ i = .int .i64 k ∧ (∀ j, 1 ≤ j → j < k → (hj : j < s.size) → idB (s[j].toNat : Int) = true)) (fun i => s.size - (intOf i).toNat)
    case atStart => exact ⟨1, by omega, by omega, rfl, fun j h1 h2 => by omega⟩
    case round =>
      obtain ⟨k, hk1, hk, rfl, hall⟩ := hrel
      have HL : Hid (∀ j, 1 ≤ j → j < k → (hj : j < s.size) → idB (s[j].toNat : Int) = true) := hall
      clear hall
      by_cases hlt : k < s.size
      · cases hd : idB (s[k].toNat : Int) with
        | false =>
          go_wp2_with (go_at_call 301; refine (id_any _ _).mono ?_; rintro e w' ⟨rfl, rfl⟩)
          go_ret
          exact ⟨ret_bool (HA.out k hk1 hlt hd).symm, rfl⟩
        | true =>
          go_wp2_with (go_at_call 301; refine (id_any _ _).mono ?_; rintro e w' ⟨rfl, rfl⟩)
          go_round
          case rel =>
            refine ⟨k + 1, by omega, by omega, by go_num, fun j h1 h2 hj => ?_⟩
            by_cases hjk : j = k
            · subst hjk; exact hd
            · exact HL.out j h1 (by omega) hj
          case measure => simp [intOf]; omega
      · go_wp2_with fail
        go_ret
        exact ⟨ret_bool (HT.out fun j h1 hj => HL.out j h1 (by omega) hj).symm, rfl⟩
set_option maxHeartbeats 1000000 in
theorem iden_any (s : ByteArray) (w : World) (hs : s.size ≤ maxLen) :
    Calls Tryz.prog 223 #[.string s] w fun e w' => e = .returned (.bool (idenB s.data.toList)) ∧ w' = w := by
  go_enter Tryz.func223, Tryz.ntmps223
  go_wp2_with (go_at_call 298; refine (spelled_iden _ _ hs).mono ?_; rintro e w' ⟨rfl, rfl⟩)
  go_ret
  exact ⟨rfl, rfl⟩
end Go.Proofs.YtmhlcnmfbolgdaaGreat

namespace Go.Proofs
open Go.Shelf
end Go.Proofs

namespace Go.Proofs.YtmhlcnmfbolgdaaGreat
theorem ix_cases (l : List UInt8) (c : UInt8) :
    (Lib.indexByte l c = -1 ∧ c ∉ l) ∨ ∃ i : Nat, Lib.indexByte l c = (i : Int) ∧ i < l.length ∧ l[i]? = some c ∧ c ∉ l.take i := by
  induction l with
  | nil => left; exact ⟨rfl, by simp⟩
  | cons b l ih =>
    by_cases hb : b = c
    · right
      refine ⟨0, ?_, by simp, by simp [hb], by simp⟩
      unfold Lib.indexByte; simp [hb]
    · have hbc : (b == c) = false := by simp [hb]
      rcases ih with ⟨h1, h2⟩ | ⟨i, h1, h2, h3, h4⟩
      · left
        refine ⟨?_, ?_⟩
        · unfold Lib.indexByte; rw [hbc]; simp [h1]
        · simp only [List.mem_cons, not_or]; exact ⟨fun h => hb h.symm, h2⟩
      · right
        refine ⟨i + 1, ?_, by simp; omega, by simpa using h3, ?_⟩
        · unfold Lib.indexByte; rw [hbc, h1]
          have : ((i : Int) == -1) = false := by rw [beq_eq_false_iff_ne]; omega
          simp [this]
        · simp only [List.take_succ_cons, List.mem_cons, not_or]; exact ⟨fun h => hb h.symm, h4⟩
end Go.Proofs.YtmhlcnmfbolgdaaGreat

namespace Go.Proofs.YtmhlcnmfbolgdaaGreat
open Go.RowKit
set_option maxHeartbeats 400000 in
theorem cutl_no (s : ByteArray) (c : UInt8) (w : World) (hix : Lib.indexByte s.data.toList c = -1) :
    Calls Tryz.prog 406 #[.string s, .string ⟨#[c]⟩] w fun e w' => e = .returned (.tuple #[.string s, .string ⟨#[]⟩, .bool false]) ∧ w' = w := by
  have HX : Hid (Lib.indexByte s.data.toList c = -1) := hix
  clear hix
  go_enter Tryz.func406, Tryz.ntmps406
  go_wp2_with (go_at_call 407; refine (Tryz.stringslite_Index_one _ _ _).mono ?_; rintro e w' ⟨rfl, rfl⟩; rw [HX.out])
  go_ret3
  exact ⟨rfl, rfl⟩
set_option maxHeartbeats 400000 in
theorem cutl_yes (s : ByteArray) (c : UInt8) (w : World) (i : Nat) (hix : Lib.indexByte s.data.toList c = (i : Int)) (hi : i < s.size) (hs : s.size ≤ maxLen) :
    Calls Tryz.prog 406 #[.string s, .string ⟨#[c]⟩] w fun e w' => e = .returned (.tuple #[.string (s.extract 0 i), .string (s.extract (i + 1) s.size), .bool true]) ∧ ∃ n, w' = w.drewN n := by
  have HX : Hid (Lib.indexByte s.data.toList c = (i : Int)) := hix
  clear hix
  unfold maxLen at hs
  have c1 : (0 : Int) ≤ ↑i := by omega
  have c2 : (↑i : Int) ≤ ↑s.size := by omega
  have c3 : (0 : Int) ≤ ↑i + 1 := by omega
  have c4 : (↑i + 1 : Int) ≤ ↑s.size := by omega
  go_enter Tryz.func406, Tryz.ntmps406
  go_wp2_with (go_at_call 407; refine (Tryz.stringslite_Index_one _ _ _).mono ?_; rintro e w' ⟨rfl, rfl⟩; rw [HX.out])
  go_quiet (fail)
  go_wp2_with fail
  go_ret3
  exact ⟨rfl, _, rfl⟩
set_option maxHeartbeats 400000 in
theorem cut_no (s : ByteArray) (c : UInt8) (w : World) (hix : Lib.indexByte s.data.toList c = -1) :
    Calls Tryz.prog 397 #[.string s, .string ⟨#[c]⟩] w fun e w' => e = .returned (.tuple #[.string s, .string ⟨#[]⟩, .bool false]) ∧ w' = w := by
  have HX : Hid (Lib.indexByte s.data.toList c = -1) := hix
  clear hix
  go_enter Tryz.func397, Tryz.ntmps397
  go_wp2_with (go_at_call 406; refine (cutl_no _ _ _ HX.out).mono ?_; rintro e w' ⟨rfl, rfl⟩)
  go_ret3
  exact ⟨rfl, rfl⟩
set_option maxHeartbeats 400000 in
theorem cut_yes (s : ByteArray) (c : UInt8) (w : World) (i : Nat) (hix : Lib.indexByte s.data.toList c = (i : Int)) (hi : i < s.size) (hs : s.size ≤ maxLen) :
    Calls Tryz.prog 397 #[.string s, .string ⟨#[c]⟩] w fun e w' => e = .returned (.tuple #[.string (s.extract 0 i), .string (s.extract (i + 1) s.size), .bool true]) ∧ ∃ n, w' = w.drewN n := by
  have HX : Hid (Lib.indexByte s.data.toList c = (i : Int)) := hix
  clear hix
  go_enter Tryz.func397, Tryz.ntmps397
  go_wp2_with (go_at_call 406; refine (cutl_yes _ _ _ i HX.out hi hs).mono ?_; rintro e w' ⟨rfl, n, rfl⟩)
  go_ret3
  exact ⟨rfl, n, rfl⟩
end Go.Proofs.YtmhlcnmfbolgdaaGreat

namespace Go.Proofs.YtmhlcnmfbolgdaaGreat
open Go.RowKit
def keyB (a b : ByteArray) : Bool := typeB a.data.toList && idenB b.data.toList
set_option maxHeartbeats 400000 in
theorem key_any (a b : ByteArray) (w : World) (ha : a.size ≤ maxLen) (hb : b.size ≤ maxLen) :
    Calls Tryz.prog 143 #[.agg #[.string a, .string b]] w fun e w' => e = .returned (.bool (keyB a b)) ∧ Below w.heap.size w w' := by
  have HK : Hid (keyB a b = (typeB a.data.toList && idenB b.data.toList)) := rfl
  cases ht : typeB a.data.toList
  all_goals
    go_enter Tryz.func143, Tryz.ntmps143
    go_wp2_with (first | (go_at_call 222; refine (type_any _ _ ha).mono ?_; rintro e w' ⟨rfl, rfl⟩) | (go_at_call 223; refine (iden_any _ _ hb).mono ?_; rintro e w' ⟨rfl, rfl⟩))
    go_ret
    exact ⟨ret_bool (by rw [HK.out, ht]; rfl), (Below.refl _ _).alloc (Nat.le_refl _) _⟩
theorem typeB_len {l : List UInt8} (h : typeB l = true) : l.length ≤ 32 := by
  cases l with
  | nil => simp
  | cons c r => simp [typeB, spell] at h; simp; omega
theorem idenB_len {l : List UInt8} (h : idenB l = true) : l.length ≤ 32 := by
  cases l with
  | nil => simp
  | cons c r => simp [idenB, spell] at h; simp; omega
end Go.Proofs.YtmhlcnmfbolgdaaGreat

namespace Go.Proofs.YtmhlcnmfbolgdaaGreat.Z
open Go.RowKit
def orI (x y : Int) : Int := if x = 0 then y else x
set_option maxHeartbeats 400000 in
theorem zor_any (x y : Int) (b : Nat) (w : World) (h0 : w.cell? ⟨b, 0, none⟩ = some (.int .i64 x)) (h1 : w.cell? ⟨b, 1, none⟩ = some (.int .i64 y)) :
    Calls Tryz.prog 250 #[.slice (some ⟨b, 0, none⟩) 2 2] w fun e w' => e = .returned (.int .i64 (orI x y)) ∧ w' = w := by
  by_cases hx : x = 0
  · have HO : Hid (orI x y = y) := if_pos hx
    subst hx
    by_cases hy : y = 0
    · subst hy
      go_enter Tryz.func250, Tryz.ntmps250
      go_wp2
      refine wp_loop_rounds 3 ?_
      rw [rounds_succ]; go_wp2
      rw [rounds_succ]; go_wp2
      rw [rounds_succ]; go_wp2
      go_ret
      exact ⟨ret_int HO.out.symm, rfl⟩
    · have hyb : (y != 0) = true := by simp [hy]
      clear hy
      go_enter Tryz.func250, Tryz.ntmps250
      go_wp2
      refine wp_loop_rounds 3 ?_
      rw [rounds_succ]; go_wp2
      rw [rounds_succ]; go_wp2
      go_ret
      exact ⟨ret_int HO.out.symm, rfl⟩
  · have HO : Hid (orI x y = x) := if_neg hx
    have hxb : (x != 0) = true := by simp [hx]
    clear hx
    go_enter Tryz.func250, Tryz.ntmps250
    go_wp2
    refine wp_loop_rounds 3 ?_
    rw [rounds_succ]; go_wp2
    go_ret
    exact ⟨ret_int HO.out.symm, rfl⟩
attribute [local go_sem] Go.wp_at_zero Go.wp_at_succ
def cmpI (a b c d : ByteArray) : Int := orI (Lib.compareBytes a.data.toList c.data.toList) (Lib.compareBytes b.data.toList d.data.toList)
set_option maxHeartbeats 800000 in
theorem compare_eq (a b c d : ByteArray) (w : World) :
    Calls Tryz.prog 166 #[.agg #[.string a, .string b], .agg #[.string c, .string d]] w fun e w' => e = .returned (.int .i64 (cmpI a b c d)) ∧
      w' = (((w.alloc (.cells #[.string a, .string b] 39)).alloc (.cells #[.string c, .string d] 39)).alloc (.cells #[.int .i64 (Lib.compareBytes a.data.toList c.data.toList), .int .i64 (Lib.compareBytes b.data.toList d.data.toList)] 3)).drew := by
  have HO : Hid (cmpI a b c d = orI (Lib.compareBytes a.data.toList c.data.toList) (Lib.compareBytes b.data.toList d.data.toList)) := rfl
  go_enter Tryz.func166, Tryz.ntmps166
  go_wp2_with fail
  go_region_held3 (fun w' => w'.cell? ⟨w.heap.size, 0, none⟩ = some (.string a) ∧ w'.cell? ⟨w.heap.size, 1, none⟩ = some (.string b) ∧ w'.cell? ⟨w.heap.size + 1, 0, none⟩ = some (.string c) ∧ w'.cell? ⟨w.heap.size + 1, 1, none⟩ = some (.string d)) (go_keep) (first | (go_at_call 251; refine (Tryz.strings_Compare _ _ _).mono ?_; rintro e w' ⟨rfl, rfl⟩) | (go_at_call 250; refine (zor_any (Lib.compareBytes a.data.toList c.data.toList) (Lib.compareBytes b.data.toList d.data.toList) _ _ ?_ ?_).mono ?_; (simp [go_sem]); (simp [go_sem]); rintro e w' ⟨rfl, rfl⟩))
  all_goals
    go_wp2
    go_ret
    exact ⟨ret_int HO.out.symm, rfl⟩
end Go.Proofs.YtmhlcnmfbolgdaaGreat.Z

namespace Go.Proofs.YtmhlcnmfbolgdaaGreat.Z
open Go.RowKit
def eqK (a b c d : ByteArray) : Bool := a.toList == c.toList && b.toList == d.toList
theorem eql_key (a b c d : ByteArray) (w : World) : (binOp .eql 39 (.agg #[.string a, .string b]) (.agg #[.string c, .string d])).run Tryz.prog w = .ok (.bool (eqK a b c d)) w := by
  have u9 := Tryz.underlying9
  have a9 := Tryz.isAgg9
  have z9 := Tryz.sizeOf9
  have hS : Tryz.prog.underlying 39 = some (.struct (Tryz.prog.fieldsOf 39)) := by kernel_rfl
  have hp : Tryz.prog.stoodInHeld 39 = false := by kernel_rfl
  rw [run_eql_struct, show (10000 : Nat) = 9999 + 1 from rfl, run_equalIn_agg w 9999 39 _ _ hS hp]
  simp only [Program.fieldsOf, Tryz.underlying39]
  go_simp
  unfold eqK
  by_cases h1 : a.toList = c.toList <;> by_cases h2 : b.toList = d.toList <;> simp [h1, h2]
theorem neq_key (a b c d : ByteArray) (w : World) : (binOp .neq 39 (.agg #[.string a, .string b]) (.agg #[.string c, .string d])).run Tryz.prog w = .ok (.bool (!eqK a b c d)) w := by
  have u9 := Tryz.underlying9
  have a9 := Tryz.isAgg9
  have z9 := Tryz.sizeOf9
  have hS : Tryz.prog.underlying 39 = some (.struct (Tryz.prog.fieldsOf 39)) := by kernel_rfl
  have hp : Tryz.prog.stoodInHeld 39 = false := by kernel_rfl
  rw [run_neq_struct, show (10000 : Nat) = 9999 + 1 from rfl, run_equalIn_agg w 9999 39 _ _ hS hp]
  simp only [Program.fieldsOf, Tryz.underlying39]
  go_simp
  unfold eqK
  by_cases h1 : a.toList = c.toList <;> by_cases h2 : b.toList = d.toList <;> simp [h1, h2]
end Go.Proofs.YtmhlcnmfbolgdaaGreat.Z

namespace Go.Proofs.YtmhlcnmfbolgdaaGreat.Z
open Go.RowKit
theorem zero_cells (e : Value) (n : Nat) : (Builtin.zeroCells #[e, e] n).toList = List.replicate (n * 2) e := by
  apply List.ext_getElem
  · simp [Builtin.zeroCells]
  · intro i h1 h2
    simp [Builtin.zeroCells]
    rcases Nat.mod_two_eq_zero_or_one i with h | h <;> simp [h]
theorem run_clear_key (w : World) (ty : TypeId) (b o n c : Nat) (hn : 0 < n)
    (hc : ∀ j, j < n * 2 → (w.cell? ⟨b, o + j, none⟩).isSome = true) (hf : ∀ j, j < n * 2 → w.frozen? ⟨b, o + j, none⟩ = false) :
    (Builtin.clear_ #[50] ty #[.slice (some ⟨b, o, none⟩) n c]).run Tryz.prog w = .ok (.tuple #[]) (w.setCells b o (List.replicate (n * 2) (.string ⟨#[]⟩))) := by
  have hst := run_storeCells_cells (P := Tryz.prog) b o (List.replicate (n * 2) (.string ⟨#[]⟩)) 0 w (by simpa using hc) (by simpa using hf) (by intro v hv'; rw [List.eq_of_mem_replicate hv']; rfl)
  simp only [Nat.add_zero] at hst
  have hz := zero_cells (.string ⟨#[]⟩) n
  obtain ⟨m, rfl⟩ : ∃ m, n = m + 1 := ⟨n - 1, by omega⟩
  simp [Builtin.clear_, run_underlying Tryz.underlying50, Tryz.zeroValue39, Value.cells, hz, hst]
theorem below_setCells {B : Nat} {w w' : World} (b : Nat) (hb : B ≤ b) : ∀ (vs : List Value) (o : Nat), Below B w w' → Below B w (w'.setCells b o vs)
  | [], _, h => h
  | v :: vs, o, h => by
    unfold World.setCells
    exact below_setCells (w' := w'.setCell ⟨b, o, none⟩ v) b hb vs (o + 1) (h.setCell hb v)
theorem eqK_self (a b : ByteArray) : eqK a b a b = true := by simp [eqK]
end Go.Proofs.YtmhlcnmfbolgdaaGreat.Z

namespace Go.Proofs.YtmhlcnmfbolgdaaGreat.Z
theorem cb_self (a : List UInt8) : Lib.compareBytes a a = 0 := by
  induction a with
  | nil => rfl
  | cons x a ih => unfold Lib.compareBytes; simp [ih]
theorem cb_zero (a b : List UInt8) : Lib.compareBytes a b = 0 ↔ a = b := by
  constructor
  · induction a generalizing b with
    | nil => cases b with
      | nil => intro _; rfl
      | cons y b => intro h; simp [Lib.compareBytes] at h
    | cons x a ih => cases b with
      | nil => intro h; simp [Lib.compareBytes] at h
      | cons y b =>
        intro h
        unfold Lib.compareBytes at h
        split at h
        · simp at h
        · split at h
          · simp at h
          · rename_i h1 h2
            have : x = y := by
              apply UInt8.toNat_inj.1
              rw [UInt8.lt_iff_toNat_lt] at h1 h2
              omega
            rw [this, ih b h]
  · rintro rfl; exact cb_self a
theorem cb_neg (a b : List UInt8) : Lib.compareBytes b a = - Lib.compareBytes a b := by
  induction a generalizing b with
  | nil => cases b <;> simp [Lib.compareBytes]
  | cons x a ih => cases b with
    | nil => simp [Lib.compareBytes]
    | cons y b =>
      unfold Lib.compareBytes
      by_cases h1 : x < y
      · have h2 : ¬ y < x := by rw [UInt8.lt_iff_toNat_lt] at h1 ⊢; omega
        simp [h1, h2]
      · by_cases h2 : y < x
        · simp [h1, h2]
        · simp [h1, h2, ih b]
theorem cb_range (a b : List UInt8) : Lib.compareBytes a b = -1 ∨ Lib.compareBytes a b = 0 ∨ Lib.compareBytes a b = 1 := by
  induction a generalizing b with
  | nil => cases b <;> simp [Lib.compareBytes]
  | cons x a ih => cases b with
    | nil => simp [Lib.compareBytes]
    | cons y b =>
      unfold Lib.compareBytes
      by_cases h1 : x < y
      · simp [h1]
      · by_cases h2 : y < x
        · simp [h1, h2]
        · simpa [h1, h2] using ih b
theorem cb_lt_trans (a b c : List UInt8) (h1 : Lib.compareBytes a b < 0) (h2 : Lib.compareBytes b c < 0) : Lib.compareBytes a c < 0 := by
  induction a generalizing b c with
  | nil => cases c with
    | nil => cases b <;> simp [Lib.compareBytes] at h1 h2
    | cons z c => simp [Lib.compareBytes]
  | cons x a ih => cases b with
    | nil => simp [Lib.compareBytes] at h1
    | cons y b => cases c with
      | nil => simp [Lib.compareBytes] at h2
      | cons z c =>
        unfold Lib.compareBytes at h1 h2 ⊢
        simp only [UInt8.lt_iff_toNat_lt] at h1 h2 ⊢
        by_cases p1 : x.toNat < y.toNat
        · by_cases q1 : y.toNat < z.toNat
          · rw [if_pos (by omega)]; decide
          · rw [if_neg q1] at h2
            by_cases q2 : z.toNat < y.toNat
            · rw [if_pos q2] at h2; simp at h2
            · rw [if_pos (by omega)]; decide
        · rw [if_neg p1] at h1
          by_cases p2 : y.toNat < x.toNat
          · rw [if_pos p2] at h1; simp at h1
          · rw [if_neg p2] at h1
            by_cases q1 : y.toNat < z.toNat
            · rw [if_pos (by omega)]; decide
            · rw [if_neg q1] at h2
              by_cases q2 : z.toNat < y.toNat
              · rw [if_pos q2] at h2; simp at h2
              · rw [if_neg q2] at h2
                rw [if_neg (by omega), if_neg (by omega)]
                exact ih b c h1 h2
theorem cb_less (a b : List UInt8) : decide (Lib.compareBytes a b < 0) = Op.bytesLess a b := by
  induction a generalizing b with
  | nil => cases b <;> simp [Lib.compareBytes, Op.bytesLess]
  | cons x a ih => cases b with
    | nil => simp [Lib.compareBytes, Op.bytesLess]
    | cons y b =>
      unfold Lib.compareBytes Op.bytesLess
      rw [← ih b]
      by_cases h1 : x < y
      · simp [h1]
      · by_cases h2 : y < x
        · have hne : (x == y) = false := by
            rw [beq_eq_false_iff_ne]; rintro rfl; exact h1 h2
          simp [h1, h2, hne]
        · have he : x = y := by
            apply UInt8.toNat_inj.1
            rw [UInt8.lt_iff_toNat_lt] at h1 h2
            omega
          simp [he]
def pairI (x y : Int) : Int := if x = 0 then y else x
def cmpL (a b c d : List UInt8) : Int := pairI (Lib.compareBytes a c) (Lib.compareBytes b d)
theorem cmpL_cases (a b c d : List UInt8) : (a = c ∧ cmpL a b c d = Lib.compareBytes b d) ∨ (a ≠ c ∧ Lib.compareBytes a c ≠ 0 ∧ cmpL a b c d = Lib.compareBytes a c) := by
  unfold cmpL pairI
  by_cases h : Lib.compareBytes a c = 0
  · left; exact ⟨(cb_zero a c).1 h, by rw [if_pos h]⟩
  · right; exact ⟨fun e => h ((cb_zero a c).2 e), h, by rw [if_neg h]⟩
theorem cmpL_neg (a b c d : List UInt8) : cmpL c d a b = - cmpL a b c d := by
  unfold cmpL pairI
  rw [cb_neg a c, cb_neg b d]
  by_cases h : Lib.compareBytes a c = 0
  · rw [if_pos h, if_pos (by omega)]
  · rw [if_neg h, if_neg (by omega)]
theorem cmpL_range (a b c d : List UInt8) : cmpL a b c d = -1 ∨ cmpL a b c d = 0 ∨ cmpL a b c d = 1 := by
  rcases cmpL_cases a b c d with ⟨_, h⟩ | ⟨_, _, h⟩ <;> rw [h] <;> exact cb_range _ _
theorem cmpL_zero (a b c d : List UInt8) : cmpL a b c d = 0 ↔ a = c ∧ b = d := by
  rcases cmpL_cases a b c d with ⟨h1, h⟩ | ⟨h1, h2, h⟩
  · rw [h, cb_zero]; exact ⟨fun e => ⟨h1, e⟩, fun e => e.2⟩
  · rw [h]; exact ⟨fun e => absurd e h2, fun e => absurd e.1 h1⟩
theorem cmpL_lt_trans (a b c d e f : List UInt8) (h1 : cmpL a b c d < 0) (h2 : cmpL c d e f < 0) : cmpL a b e f < 0 := by
  rcases cmpL_cases a b c d with ⟨p1, p⟩ | ⟨p1, _, p⟩ <;> rcases cmpL_cases c d e f with ⟨q1, q⟩ | ⟨q1, _, q⟩ <;> rcases cmpL_cases a b e f with ⟨r1, r⟩ | ⟨r1, _, r⟩ <;> rw [p] at h1 <;> rw [q] at h2 <;> rw [r]
  · exact cb_lt_trans _ _ _ h1 h2
  · exact absurd (p1.trans q1) r1
  · exact absurd (p1.symm.trans r1) q1
  · rw [p1]; exact h2
  · exact absurd (r1.trans q1.symm) p1
  · rw [← q1]; exact h1
  · have := cb_lt_trans _ _ _ h1 h2; rw [r1, cb_self] at this; omega
  · exact cb_lt_trans _ _ _ h1 h2
theorem cmpL_le_trans (a b c d e f : List UInt8) (h1 : cmpL a b c d ≤ 0) (h2 : cmpL c d e f ≤ 0) : cmpL a b e f ≤ 0 := by
  by_cases p : cmpL a b c d = 0
  · obtain ⟨rfl, rfl⟩ := (cmpL_zero _ _ _ _).1 p; exact h2
  · by_cases q : cmpL c d e f = 0
    · obtain ⟨rfl, rfl⟩ := (cmpL_zero _ _ _ _).1 q; exact h1
    · have := cmpL_lt_trans a b c d e f (by omega) (by omega); omega
end Go.Proofs.YtmhlcnmfbolgdaaGreat.Z

namespace Go.Proofs.YtmhlcnmfbolgdaaGreat.Z
open Go.RowKit Go.Sort Go.Lib
def encKey (x : ByteArray × ByteArray) : List Value := [.string x.1, .string x.2]
def cmpK (x y : ByteArray × ByteArray) : Int := cmpI x.1 x.2 y.1 y.2
theorem ltK (x y : ByteArray × ByteArray) : ltOf cmpK x y = decide (cmpL x.1.data.toList x.2.data.toList y.1.data.toList y.2.data.toList < 0) := rfl
theorem swoK : SWO (ltOf cmpK) where
  irrefl x := by rw [ltK, (cmpL_zero _ _ _ _).2 ⟨rfl, rfl⟩]; rfl
  trans x y z h1 h2 := by
    rw [ltK, decide_eq_true_iff] at *
    exact cmpL_lt_trans _ _ _ _ _ _ h1 h2
  ntrans x y z h1 h2 := by
    rw [ltK, decide_eq_false_iff_not] at *
    intro h
    have n1 := cmpL_neg x.1.data.toList x.2.data.toList y.1.data.toList y.2.data.toList
    have n2 := cmpL_neg y.1.data.toList y.2.data.toList z.1.data.toList z.2.data.toList
    have n3 := cmpL_neg x.1.data.toList x.2.data.toList z.1.data.toList z.2.data.toList
    have := cmpL_le_trans z.1.data.toList z.2.data.toList y.1.data.toList y.2.data.toList x.1.data.toList x.2.data.toList (by omega) (by omega)
    omega
theorem three_new (W : World) (o1 o2 o3 : Obj) : (((W.alloc o1).alloc o2).alloc o3).drew = grow (W.drewN 1) #[o1, o2, o3] := by
  rw [alloc_eq_grow, alloc_eq_grow, alloc_eq_grow, grow_grow, grow_grow]; rfl
theorem cmpLaysK (blk off size : Nat) (w : World) : CmpLays Tryz.prog 166 #[] encKey 2 cmpK blk off size w :=
  fun _ _ _ _ x y => (compare_eq x.1 x.2 y.1 y.2 _).mono fun _ _ ⟨h1, h2⟩ => ⟨h1, 1, _, h2.trans (three_new _ _ _ _)⟩
theorem enters23 : ∀ args w, (callFunc 166 args).run Tryz.prog w = .ok (.enter 166 args) w := enters_of Tryz.func166 (by kernel_rfl) rfl
theorem zsortfunc_any (blk off cap : Nat) (d : Array (ByteArray × ByteArray)) (w : World) (hH : HoldsK encKey 2 w blk off d) (hblk : blk < w.heap.size) (hsz : d.size < 4611686018427387904) :
    Calls Tryz.prog 256 #[.slice (some ⟨blk, off, none⟩) d.size cap, .func (.func 166) #[] #[]] w fun e w' =>
      e = .returned (.tuple #[]) ∧ ∃ d' n os, PermIn 0 d.size d d' ∧ SortedIn (ltOf cmpK) 0 d.size d' ∧ w' = sortWorldK encKey 2 w blk off n d' os :=
  AnyQ.slices_SortFunc Tryz.sortKey 2 Tryz.isAgg39 Tryz.sizeOf39 encKey (fun _ => rfl) (fun x v hv => by simp [encKey] at hv; rcases hv with rfl | rfl <;> rfl) cmpK swoK 166 #[] blk off cap d w enters23 (cmpLaysK blk off d.size w) hH hblk hsz
theorem zclone_any (b off n c : Nat) (news : List Value) (w : World) (hl : news.length = n * 2) (hn : n ≤ maxLen) (hbig : n * 32 ≤ 140737488355328)
    (hc : ∀ j u, news[j]? = some u → w.cell? ⟨b, off + j, none⟩ = some u) (h1 : ∀ u ∈ news, u.oneCell' = true) :
    Calls Tryz.prog 248 #[.slice (some ⟨b, off, none⟩) n c] w fun e w' => ∃ v', e = .returned v' ∧ w'.ownsRow w.heap.size 39 2 v' n news ∧ v' ≠ .slice none 0 0 ∧ Below w.heap.size w w' := by
  have hs : (Tryz.prog.info? 39).isSome = true := by kernel_rfl
  have hi : ∃ i0, Tryz.prog.info? 39 = some i0 ∧ i0.zero = some (.agg #[.string ⟨#[]⟩, .string ⟨#[]⟩]) ∧ i0.size = 2 ∧ i0.bytes = 32 :=
    ⟨(Tryz.prog.info? 39).get hs, (Option.some_get hs).symm, by kernel_rfl, by kernel_rfl, by kernel_rfl⟩
  obtain ⟨i0, e1, e2, e3, e4⟩ := hi
  exact AnyE.slices_Clone Tryz.cloneKey i0 _ 2 32 e1 e2 e3 e4 rfl (by omega) Tryz.sizeOf39 b off n c news w hl hn hbig hc h1
def cellsK (d : Array (ByteArray × ByteArray)) : List Value := d.toList.flatMap encKey
theorem below_sortWorld {B : Nat} {w0 w : World} (h : Below B w0 w) (hB : B ≤ w.heap.size) (blk off n : Nat) (d : Array (ByteArray × ByteArray)) (os : Array Obj) (hb : B ≤ blk) : Below B w0 (sortWorldK encKey 2 w blk off n d os) := by
  refine h.trans ⟨rfl, rfl, rfl, ?_, ?_⟩
  · simp [sortWorldK, putRowK]
  · intro k hk
    have hks : k < w.heap.size := by omega
    simp only [sortWorldK, grow, putRowK, putRow, mapBlock, Sort.ahead]
    rw [Array.getElem?_append_left (by simpa using hks), Array.getElem?_modify, if_neg (by omega)]
theorem flat_get (l : List (ByteArray × ByteArray)) (t : Nat) (h : t < l.length * 2) : (l.flatMap encKey)[t]? = some (encKey (l[t / 2]!))[t % 2]! := by
  induction l generalizing t with
  | nil => simp at h
  | cons x l ih =>
    rw [List.flatMap_cons]
    by_cases h2 : t < 2
    · rcases (show t = 0 ∨ t = 1 by omega) with rfl | rfl <;> simp [encKey]
    · obtain ⟨u, rfl⟩ : ∃ u, t = u + 2 := ⟨t - 2, by omega⟩
      have hl : (encKey x).length = 2 := rfl
      rw [List.getElem?_append_right (by omega), hl, show u + 2 - 2 = u by omega, ih u (by simp at h; omega), show (u + 2) / 2 = u / 2 + 1 by omega, show (u + 2) % 2 = u % 2 by omega]
      simp
theorem holds_of_heap {w : World} {g : Nat} {cur : Array Value} {e : TypeId} (d : Array (ByteArray × ByteArray)) (hheap : w.heap[g]? = some (.cells cur e (0, 0))) (htake : cur.toList.take (d.size * 2) = cellsK d) : HoldsK encKey 2 w g 0 d := by
  intro j hj
  rw [size_flatK] at hj
  have hg := flat_get d.toList j (by simpa using hj)
  have h1 : (cur.toList.take (d.size * 2))[j]? = some (encKey (d.toList[j / 2]!))[j % 2]! := by rw [htake]; exact hg
  rw [List.getElem?_take_of_lt hj] at h1
  rw [get_flatK _ _ _ _ hj]
  constructor
  · simp only [World.cell?, hheap, Nat.zero_add]
    have he : d.toList[j / 2]! = d[j / 2]! := by
      rw [getElem!_pos d (j / 2) (by omega), getElem!_pos d.toList (j / 2) (by simp; omega)]; simp
    rw [← Array.getElem?_toList, h1, he]
    rfl
  · simp [World.frozen?, hheap]
end Go.Proofs.YtmhlcnmfbolgdaaGreat.Z

namespace Go.Proofs.YtmhlcnmfbolgdaaGreat.Z
open Go.RowKit
def cellsL (d : List (ByteArray × ByteArray)) : List Value := d.flatMap encKey
theorem cellsL_cons (x : ByteArray × ByteArray) (d : List (ByteArray × ByteArray)) : cellsL (x :: d) = .string x.1 :: .string x.2 :: cellsL d := rfl
theorem cellsL_length (d : List (ByteArray × ByteArray)) : (cellsL d).length = d.length * 2 := by
  induction d with
  | nil => rfl
  | cons x d ih => rw [cellsL_cons]; simp [ih]; omega
theorem cellsL_one (d : List (ByteArray × ByteArray)) : ∀ u ∈ cellsL d, u.oneCell' = true := by
  intro u hu
  obtain ⟨x, _, hx⟩ := List.mem_flatMap.1 hu
  simp [encKey] at hx
  rcases hx with rfl | rfl <;> rfl
theorem cellsL_get (d : List (ByteArray × ByteArray)) (i : Nat) (h : i < d.length) : (cellsL d)[i * 2]? = some (.string d[i].1) ∧ (cellsL d)[i * 2 + 1]? = some (.string d[i].2) := by
  induction d generalizing i with
  | nil => simp at h
  | cons x d ih =>
    rw [cellsL_cons]
    cases i with
    | zero => simp
    | succ i =>
      have := ih i (by simpa using h)
      rw [show (i + 1) * 2 = i * 2 + 1 + 1 by omega]
      simpa using this
theorem cellsL_set (d : List (ByteArray × ByteArray)) (i : Nat) (a b : ByteArray) (h : i < d.length) : ((cellsL d).set (i * 2) (.string a)).set (i * 2 + 1) (.string b) = cellsL (d.set i (a, b)) := by
  induction d generalizing i with
  | nil => simp at h
  | cons x d ih =>
    rw [cellsL_cons]
    cases i with
    | zero => simp [cellsL_cons]
    | succ i =>
      rw [show (i + 1) * 2 = i * 2 + 1 + 1 by omega]
      simp only [List.set_cons_succ, cellsL_cons]
      rw [ih i (by simpa using h)]
theorem cellsL_take (d : List (ByteArray × ByteArray)) (k : Nat) : (cellsL d).take (k * 2) = cellsL (d.take k) := by
  induction d generalizing k with
  | nil => simp [cellsL]
  | cons x d ih =>
    cases k with
    | zero => simp [cellsL]
    | succ k => rw [show (k + 1) * 2 = k * 2 + 1 + 1 by omega, cellsL_cons]; simp [ih, cellsL_cons]
def KeysAt (w : World) (b off : Nat) (d : List (ByteArray × ByteArray)) : Prop :=
  ∀ i, (h : i < d.length) → w.cell? ⟨b, off + i * 2, none⟩ = some (.string d[i].1) ∧ w.cell? ⟨b, off + i * 2 + 1, none⟩ = some (.string d[i].2)
def Own (w : World) (base : Nat) (v : Value) (d : List (ByteArray × ByteArray)) : Prop := w.ownsRow base 39 2 v d.length (cellsL d)
theorem Own.keysAt {w : World} {base g n cap : Nat} {d : List (ByteArray × ByteArray)} (h : Own w base (.slice (some ⟨g, 0, none⟩) n cap) d) : n = d.length ∧ KeysAt w g 0 d := by
  have hn : n = d.length := by
    rcases h.2 with ⟨h', _⟩ | ⟨_, _, _, h', _⟩
    · simp at h'
    · simp only [Value.slice.injEq] at h'; exact h'.2.1
  subst hn
  refine ⟨rfl, fun i hi => ?_⟩
  have e := cellsL_get d i hi
  rw [Nat.zero_add, World.ownsRow.cellAt h (i * 2) (by omega), World.ownsRow.cellAt h (i * 2 + 1) (by omega)]
  exact e
end Go.Proofs.YtmhlcnmfbolgdaaGreat.Z

namespace Go.Proofs.YtmhlcnmfbolgdaaGreat.Z
open Go.RowKit
theorem eqK_iff (x y : ByteArray × ByteArray) : eqK x.1 x.2 y.1 y.2 = decide (x = y) := by
  unfold eqK
  rw [Lib.toList_data, Lib.toList_data, Lib.toList_data, Lib.toList_data, Bool.eq_iff_iff, decide_eq_true_iff]
  obtain ⟨⟨⟨a⟩⟩, ⟨⟨b⟩⟩⟩ := x
  obtain ⟨⟨⟨c⟩⟩, ⟨⟨d⟩⟩⟩ := y
  simp
end Go.Proofs.YtmhlcnmfbolgdaaGreat.Z


namespace Go.Proofs.YtmhlcnmfbolgdaaGreat
theorem at_drop0 {ops : Array Oper} {i : Nat} {oi : Oper} {rest : List Oper} (h : ops.toList.drop i = oi :: rest) : ops[i]? = some oi := by
  rw [← Array.getElem?_toList, ← List.head?_drop, h]; rfl
section
variable {P : Program} {ops : Array Oper} {Q : Exit → Act → World → Prop} {md : Region.Mode} {S : World → Prop}
theorem take_val {i fuel : Nat} {listed : Array Bool} {a : Act} {w : World} (v : Value) {oi : Oper} {rest : List Oper} (hd : ops.toList.drop i = oi :: rest)
    (hs : Region.noSelect ops = true) (hf : Region.free md ops listed i = true) (hr : (Region.ready md ops listed).contains i = true)
    (hQ : ∀ c a w, Q (.panic c) (a.put oi.dst v) w → Q (.panic c) a w) (hw : Region.wanted oi (yielded ops a.tmps) = true) (hy : ∀ w, S w → (execOp a.eval oi).run P w = .ok (.value v) w) (hS : S w)
    (h : wpAnyH P md ops Q S fuel (listed.setIfInBounds i true) (a.put oi.dst v) w) : wpAnyH P md ops Q S (fuel + 1) listed a w :=
  wpAnyH_take (at_drop0 hd) hs hf hr hQ (Or.inl ⟨hw, hy⟩) hS h
end
end Go.Proofs.YtmhlcnmfbolgdaaGreat

namespace Go.Proofs.YtmhlcnmfbolgdaaGreat
open Go.RowKit
end Go.Proofs.YtmhlcnmfbolgdaaGreat

namespace Go.Proofs.YtmhlcnmfbolgdaaGreat
open Go.RowKit Go.Lib
def ltB (a b : ByteArray) : Bool := decide (Lib.compareBytes a.data.toList b.data.toList < 0)
theorem ba_eq {a b : ByteArray} (h : a.data.toList = b.data.toList) : a = b := by
  obtain ⟨⟨a⟩⟩ := a
  obtain ⟨⟨b⟩⟩ := b
  cases h
  rfl
theorem ltB_anti {a b : ByteArray} (h : ltB a b = false) (k : ltB b a = false) : a = b := by
  unfold ltB at *
  rw [decide_eq_false_iff_not] at *
  refine ba_eq ((cb_zero _ _).1 ?_)
  have := cb_neg a.data.toList b.data.toList
  omega
theorem ltB_irrefl (a : ByteArray) : ltB a a = false := by
  unfold ltB; rw [cb_self]; rfl
theorem ltB_asymm {a b : ByteArray} (h : ltB a b = true) : ltB b a = false := by
  unfold ltB at *
  rw [decide_eq_true_iff] at h
  rw [decide_eq_false_iff_not]
  have := cb_neg a.data.toList b.data.toList
  omega
theorem ltB_trans {a b c : ByteArray} (h : ltB a b = true) (k : ltB b c = true) : ltB a c = true := by
  unfold ltB at *
  rw [decide_eq_true_iff] at *
  exact cb_lt_trans _ _ _ h k
theorem ltB_cases (a b : ByteArray) : ltB a b = true ∨ a = b ∨ ltB b a = true := by
  cases h : ltB a b with
  | true => exact Or.inl rfl
  | false =>
    cases k : ltB b a with
    | true => exact Or.inr (Or.inr rfl)
    | false => exact Or.inr (Or.inl (ltB_anti h k))
theorem sless_of {a b : ByteArray} {c : Bool} (h : ltB a b = c) : Op.bytesLess a.toList b.toList = c := by
  rw [← h]
  unfold ltB
  rw [Lib.toList_data, Lib.toList_data, cb_less]
theorem seq_false {a b : ByteArray} (h : a ≠ b) : (a.toList == b.toList) = false := by
  rw [Lib.toList_data, Lib.toList_data, beq_eq_false_iff_ne]
  exact fun e => h (ba_eq e)
theorem seq_true {a b : ByteArray} (h : a = b) : (a.toList == b.toList) = true := by rw [h]; simp
end Go.Proofs.YtmhlcnmfbolgdaaGreat

namespace Go.Proofs.YtmhlcnmfbolgdaaGreat
open Go.RowKit Go.Lib
abbrev Ky := ByteArray × ByteArray
structure Tot {α : Type} (lt : α → α → Bool) : Prop where
  irr : ∀ a, lt a a = false
  tr : ∀ a b c, lt a b = true → lt b c = true → lt a c = true
  tot : ∀ a b, lt a b = true ∨ a = b ∨ lt b a = true
def RisingR {α : Type} (lt : α → α → Bool) (l : List α) : Prop := l.Pairwise fun x y => lt x y = true
def insR {α : Type} [DecidableEq α] (lt : α → α → Bool) (x : α) : List α → List α
  | [] => [x]
  | y :: r => if lt x y then x :: y :: r else if x = y then y :: r else y :: insR lt x r
theorem mem_insR {α : Type} [DecidableEq α] (lt : α → α → Bool) (x z : α) (l : List α) : z ∈ insR lt x l ↔ z = x ∨ z ∈ l := by
  induction l with
  | nil => simp [insR]
  | cons y r ih =>
    unfold insR
    split
    · simp
    · split
      · next h => subst h; simp
      · rw [List.mem_cons, ih, List.mem_cons]
        constructor
        · rintro (h | h | h)
          · exact Or.inr (Or.inl h)
          · exact Or.inl h
          · exact Or.inr (Or.inr h)
        · rintro (h | h | h)
          · exact Or.inr (Or.inl h)
          · exact Or.inl h
          · exact Or.inr (Or.inr h)
theorem rising_insR {α : Type} [DecidableEq α] {lt : α → α → Bool} (T : Tot lt) (x : α) {l : List α} (h : RisingR lt l) : RisingR lt (insR lt x l) := by
  induction l with
  | nil => exact List.pairwise_cons.2 ⟨fun _ h => by simp at h, List.Pairwise.nil⟩
  | cons y r ih =>
    obtain ⟨h1, h2⟩ := List.pairwise_cons.1 h
    unfold insR
    split
    · next hx =>
      refine List.pairwise_cons.2 ⟨fun z hz => ?_, h⟩
      rcases List.mem_cons.1 hz with rfl | hz
      · exact hx
      · exact T.tr _ _ _ hx (h1 z hz)
    · next hx =>
      split
      · exact h
      · next hne =>
        refine List.pairwise_cons.2 ⟨fun z hz => ?_, ih h2⟩
        rcases (mem_insR lt x z r).1 hz with rfl | hz
        · rcases T.tot y z with h | h | h
          · exact h
          · exact absurd h.symm hne
          · exact absurd h hx
        · exact h1 z hz
theorem rising_uniqR {α : Type} {lt : α → α → Bool} (T : Tot lt) : ∀ {r s : List α}, RisingR lt r → RisingR lt s → (∀ x, x ∈ r ↔ x ∈ s) → r = s
  | [], [], _, _, _ => rfl
  | [], y :: s, _, _, h => by have := (h y).2 (by simp); simp at this
  | x :: r, [], _, _, h => by have := (h x).1 (by simp); simp at this
  | x :: r, y :: s, hr, hs, h => by
    obtain ⟨r1, r2⟩ := List.pairwise_cons.1 hr
    obtain ⟨s1, s2⟩ := List.pairwise_cons.1 hs
    have hxy : x = y := by
      rcases List.mem_cons.1 ((h x).1 (by simp)) with e | hx
      · exact e
      · rcases List.mem_cons.1 ((h y).2 (by simp)) with e | hy
        · exact e.symm
        · have h1 := T.tr _ _ _ (r1 y hy) (s1 x hx)
          rw [T.irr] at h1
          cases h1
    subst hxy
    rw [rising_uniqR T r2 s2 fun z => ?_]
    constructor
    · intro hz
      rcases List.mem_cons.1 ((h z).1 (List.mem_cons_of_mem _ hz)) with e | hz'
      · subst e; have := r1 z hz; rw [T.irr] at this; cases this
      · exact hz'
    · intro hz
      rcases List.mem_cons.1 ((h z).2 (List.mem_cons_of_mem _ hz)) with e | hz'
      · subst e; have := s1 z hz; rw [T.irr] at this; cases this
      · exact hz'
theorem insR_there {α : Type} [DecidableEq α] {lt : α → α → Bool} (T : Tot lt) {x : α} {l : List α} (h : RisingR lt l) (hx : x ∈ l) : insR lt x l = l :=
  rising_uniqR T (rising_insR T x h) h fun z => by
    rw [mem_insR]
    exact ⟨fun hz => by rcases hz with rfl | hz <;> assumption, Or.inr⟩
def ltKy (a b : Ky) : Bool := ltB a.1 b.1 || (decide (a.1 = b.1) && ltB a.2 b.2)
theorem ltKy_true {a b : Ky} : ltKy a b = true ↔ ltB a.1 b.1 = true ∨ a.1 = b.1 ∧ ltB a.2 b.2 = true := by simp [ltKy]
theorem totK : Tot ltKy where
  irr a := by
    cases h : ltKy a a with
    | false => rfl
    | true =>
      rcases ltKy_true.1 h with h | ⟨_, h⟩
      · rw [ltB_irrefl] at h; cases h
      · rw [ltB_irrefl] at h; cases h
  tr a b c h k := by
    rw [ltKy_true] at *
    rcases h with h | ⟨h, h'⟩ <;> rcases k with k | ⟨k, k'⟩
    · exact Or.inl (ltB_trans h k)
    · exact Or.inl (by rw [← k]; exact h)
    · exact Or.inl (by rw [h]; exact k)
    · exact Or.inr ⟨h.trans k, ltB_trans h' k'⟩
  tot a b := by
    rw [ltKy_true, ltKy_true]
    rcases ltB_cases a.1 b.1 with h | h | h
    · exact Or.inl (Or.inl h)
    · rcases ltB_cases a.2 b.2 with k | k | k
      · exact Or.inl (Or.inr ⟨h, k⟩)
      · exact Or.inr (Or.inl (Prod.ext h k))
      · exact Or.inr (Or.inr (Or.inr ⟨h.symm, k⟩))
    · exact Or.inr (Or.inr (Or.inl h))
end Go.Proofs.YtmhlcnmfbolgdaaGreat

namespace Go.Proofs.YtmhlcnmfbolgdaaGreat
open Go.RowKit
def FitKy (k : Ky) : Prop := k.1.size ≤ maxLen ∧ k.2.size ≤ maxLen
end Go.Proofs.YtmhlcnmfbolgdaaGreat

namespace Go.Proofs.YtmhlcnmfbolgdaaGreat
open Go.RowKit
abbrev Tm := ByteArray × Int × ByteArray
def encM (x : Tm) : List Value := [.string x.1, .int .i64 x.2.1, .string x.2.2]
def KM : Kind Tm := ⟨122, 3, encM, fun _ => rfl, by decide, fun x u hu => by simp [encM] at hu; rcases hu with rfl | rfl | rfl <;> rfl⟩
def FitM (p : List Tm) : Prop := p.length ≤ maxLen ∧ ∀ x ∈ p, x.1.size ≤ maxLen ∧ x.2.2.size ≤ maxLen ∧ -9223372036854775808 ≤ x.2.1 ∧ x.2.1 ≤ 9223372036854775807
end Go.Proofs.YtmhlcnmfbolgdaaGreat

namespace Go.Proofs.YtmhlcnmfbolgdaaGreat
open Go.ChangeShapes Go.WideShapes Go.ChangeAt Go.RowKit Go.Lib Go.Deep Go.Joins
theorem Tryz.cellsWStr : Tryz.prog.cellsOf 9 = 1 := by kernel_rfl
theorem Tryz.cellsWKey : Tryz.prog.cellsOf 39 = 2 := by kernel_rfl
theorem bulkW_pos {H : Type} (d : DataW H) : 1 ≤ Rows.uptoBulk d := by
  cases d with
  | lit l => cases l <;> simp [Rows.uptoBulk]
  | nil => simp [Rows.uptoBulk]
  | ptr d => simp [Rows.uptoBulk]
  | slice elems spare => simp [Rows.uptoBulk]
  | agg parts => simp [Rows.uptoBulk]
  | iface t d => simp [Rows.uptoBulk]
  | map entries => simp [Rows.uptoBulk]
  | held h => simp [Rows.uptoBulk]
theorem bulkW_mem {H : Type} {d : DataW H} {l : List (DataW H)} (h : d ∈ l) : Rows.uptoBulk d ≤ Rows.uptoBulkAll l := by
  induction l with
  | nil => cases h
  | cons x r ih =>
    simp only [Rows.uptoBulkAll]
    rcases List.mem_cons.1 h with rfl | h
    · omega
    · have := ih h; omega
theorem bulkW_len {H : Type} (l : List (DataW H)) : l.length ≤ Rows.uptoBulkAll l := by
  induction l with
  | nil => simp [Rows.uptoBulkAll]
  | cons x r ih => have := bulkW_pos x; simp only [Rows.uptoBulkAll, List.length_cons]; omega
set_option maxRecDepth 100000 in
theorem open_rowZ {α : Type} [Inhabited α] (K : Kind α) {S : TypeId} {bytes : Nat} (hS : Tryz.prog.underlying S = some (.slice K.T)) (hk : Tryz.prog.cellsOf K.T = K.k) (hby : Tryz.prog.bytesOf K.T = bytes)
    {H : Type} (Ok : α → DataW H → Prop) {enc : TypeId × Value → H} {W : World} {fuel : Nat} {v : Value} {dd : DataW H} {p : List MemPlace}
    (each1 : ∀ (n : Nat) (cs : List Value) (x : DataW H × List MemPlace), DataW.trod enc Tryz.prog W 0 (fun _ => true) true n K.T cs = some x → (∀ n ∈ x.1.weights Tryz.prog K.T, n ≤ reachBytes) → ∃ b : α, cs = K.enc b ∧ Ok b x.1)
    (hf : DataW.trod enc Tryz.prog W 0 (fun _ => true) true fuel S [v] = some (dd, p)) (hZ : ∀ n ∈ dd.weights Tryz.prog S, n ≤ reachBytes) :
    ∃ q : List α, K.Is W v q ∧ (∀ x ∈ q, ∃ d, Rows.uptoBulk d ≤ Rows.uptoBulk dd ∧ Ok x d) ∧ q.length * bytes ≤ reachBytes ∧ q.length ≤ maxLen ∧ q.length ≤ Rows.uptoBulk dd := by
  rcases open_slice hS hf with ⟨hcs, _⟩ | ⟨a, len, cap, m, n, D, Pl, hcs, _, hl, hm, hmm, hdat, hall⟩
  · simp at hcs
    subst hcs
    exact ⟨[], K.is_nil W, fun x hx => by simp at hx, by simp, by simp, by simp⟩
  · simp at hcs
    subst hcs
    have hm' : m = cap := by simpa using hmm
    subst hm'
    rw [hk] at hall
    have hdd : dd = .slice ((List.range len).map D) ((List.range (m - len)).map fun j => D (len + j)) := congrArg Prod.fst hdat
    have hlb : len * bytes ≤ reachBytes := by
      have := hZ ((((List.range len).map D).length + ((List.range (m - len)).map fun j => D (len + j)).length) * Tryz.prog.bytesOf K.T) (by
        rw [hdd]
        simp only [DataW.weights, hS]
        exact List.mem_cons_self)
      rw [hby] at this
      simp only [List.length_map, List.length_range] at this
      exact Nat.le_trans (Nat.mul_le_mul_right _ (Nat.le_add_right _ _)) this
    have hbk : len ≤ Rows.uptoBulk dd := by
      rw [hdd]
      simp only [Rows.uptoBulk]
      have := bulkW_len ((List.range len).map D)
      simp only [List.length_map, List.length_range] at this
      omega
    have hbi : ∀ i, i < len → Rows.uptoBulk (D i) ≤ Rows.uptoBulk dd := fun i hi => by
      rw [hdd]
      simp only [Rows.uptoBulk]
      have := bulkW_mem (d := D i) (l := (List.range len).map D) (List.mem_map.2 ⟨i, List.mem_range.2 hi, rfl⟩)
      omega
    have each : ∀ i, i < len → ∃ t : α, (∀ j u, (K.enc t)[j]? = some u → W.cell? (a.add (i * K.k + j)) = some u) ∧ Ok t (D i) := by
      intro i hi
      obtain ⟨cs', h1, h2⟩ := hall i (by omega)
      obtain ⟨_, hlen, hcell⟩ := World.cells?_some h1
      have hDi : ∀ n ∈ (D i).weights Tryz.prog K.T, n ≤ reachBytes := fun n hn => by
        refine hZ n ?_
        rw [hdd]
        simp only [DataW.weights, hS]
        exact List.mem_cons_of_mem _ (List.mem_append.2 (Or.inl (weights_all hn (List.mem_map.2 ⟨i, List.mem_range.2 hi, rfl⟩))))
      obtain ⟨t, rfl, hok⟩ := each1 _ _ (D i, Pl i) h2 hDi
      refine ⟨t, fun j u hu => ?_, hok⟩
      have hj : j < K.k := by
        have := (List.getElem?_eq_some_iff.1 hu).1
        rwa [K.len] at this
      have := hcell j hj
      rw [add_add] at this
      rw [this]; exact hu
    by_cases h0 : len = 0
    · subst h0
      exact ⟨[], ⟨_, _, rfl, Or.inl rfl⟩, fun x hx => by simp at hx, by simp, by simp, by simp⟩
    · obtain ⟨f, hff⟩ := choose_lt each
      have h1 : 0 < (K.enc (f 0)).length := by rw [K.len]; exact K.pos
      have hc0 := (hff 0 (by omega)).1 0 _ (List.getElem?_eq_getElem h1)
      obtain ⟨b, off, spot⟩ := a
      have hspot : spot = none := by simpa [Addr.add] using World.cell?_spot hc0
      subst hspot
      have hlen : ((List.range len).map f).length = len := by simp
      refine ⟨(List.range len).map f, ⟨_, m, by rw [hlen], Or.inr ⟨b, off, rfl, fun i hi j u hu => ?_⟩⟩, fun x hx => ?_, by rw [hlen]; exact hlb, by rw [hlen]; omega, by rw [hlen]; exact hbk⟩
      · have hi0 : i < len := by simpa using hi
        have ef : ((List.range len).map f)[i]'hi = f i := by simp
        rw [ef] at hu
        have := (hff i hi0).1 j u hu
        rw [_root_.Go.Proofs.YtmhlcnmfbolgdaaGreat.addr_add] at this
        rw [Nat.add_assoc]
        exact this
      · obtain ⟨i, hi, rfl⟩ := List.mem_map.1 hx
        exact ⟨D i, hbi i (List.mem_range.1 hi), (hff i (List.mem_range.1 hi)).2⟩
section
variable {H : Type} {enc : TypeId × Value → H} {W : World}
set_option maxRecDepth 100000 in
theorem open_kyW {n : Nat} {cs : List Value} {x : DataW H × List MemPlace} (h : DataW.trod enc Tryz.prog W 0 (fun _ => true) true n 39 cs = some x) :
    ∃ k : Ky, cs = [.string k.1, .string k.2] ∧ FitKy k := by
  obtain ⟨xs, k, _, _, hlen, hxl, hf⟩ := DataW.trod_struct Tryz.underlying39 h
  rw [Tryz.cellsWKey] at hlen
  match cs, hlen with
  | [v0, v1], _ =>
    match xs, hxl with
    | [y0, y1], _ =>
      have g0 := hf 0 _ rfl
      have g1 := hf 1 _ rfl
      simp [Tryz.cellsWStr] at g0 g1
      obtain ⟨a, ea, _, ha⟩ := DataW.trod_string Tryz.underlying9 g0
      obtain ⟨b, eb, _, hb⟩ := DataW.trod_string Tryz.underlying9 g1
      simp only [List.cons.injEq, and_true] at ea eb
      exact ⟨(a, b), by rw [ea, eb], ha, hb⟩
end
end Go.Proofs.YtmhlcnmfbolgdaaGreat

namespace Go.Proofs.YtmhlcnmfbolgdaaGreat
open Go.RowKit
end Go.Proofs.YtmhlcnmfbolgdaaGreat

namespace Go.Proofs.YtmhlcnmfbolgdaaGreat
open Go.RowKit
theorem km_cells {w : World} {b off : Nat} {p : List Tm} (h : KM.At w b off p) (i : Nat) (hi : i < p.length) :
    w.cell? ⟨b, off + i * 3, none⟩ = some (.string (p[i]).1) ∧ w.cell? ⟨b, off + i * 3 + 1, none⟩ = some (.int .i64 (p[i]).2.1) ∧ w.cell? ⟨b, off + i * 3 + 2, none⟩ = some (.string (p[i]).2.2) :=
  ⟨h i hi 0 _ rfl, h i hi 1 _ rfl, h i hi 2 _ rfl⟩
end Go.Proofs.YtmhlcnmfbolgdaaGreat

namespace Go.Proofs.YtmhlcnmfbolgdaaGreat
open Go.RowKit
theorem Tryz.infoTrm : (Tryz.prog.info? 122).map (fun i => (i.zero, i.size, i.bytes)) = some (some (.agg #[.string ⟨#[]⟩, .int .i64 0, .string ⟨#[]⟩]), 3, 40) := by kernel_rfl
end Go.Proofs.YtmhlcnmfbolgdaaGreat

namespace Go.Proofs.YtmhlcnmfbolgdaaGreat
open Go.RowKit
end Go.Proofs.YtmhlcnmfbolgdaaGreat

namespace Go.Proofs.YtmhlcnmfbolgdaaGreat
open Go.RowKit Go.Sort Go.Lib
theorem Kind.own_form {α : Type} {K : Kind α} {n0 n c : Nat} {w : World} {q : Option Addr} {d : List α} (h : K.Own n0 w (.slice q n c) d) (h0 : 0 < d.length) : ∃ g, q = some ⟨g, 0, none⟩ ∧ n0 ≤ g ∧ d.length = n ∧ K.At w g 0 d ∧ ∀ j, w.frozen? ⟨g, j, none⟩ = false := by
  rcases h.2 with ⟨_, h1⟩ | ⟨g, cap, cur, hv, hb, hg, _⟩
  · omega
  · injection hv with h1 h2 h3
    subst h1
    obtain ⟨p, c', he, hd⟩ := Kind.own_is h
    injection he with e1 e2 e3
    rcases hd with hd | ⟨b, off, hp, hat⟩
    · rw [hd] at h0; simp at h0
    · rw [← e1] at hp
      injection hp with hp
      injection hp with hp1 hp2
      subst hp1 hp2
      exact ⟨g, rfl, hb, h2.symm, hat, fun j => Lib.frozen_of_heap hg _⟩
end Go.Proofs.YtmhlcnmfbolgdaaGreat

namespace Go.Proofs.YtmhlcnmfbolgdaaGreat
open Go.RowKit Go.Sort Go.Lib
end Go.Proofs.YtmhlcnmfbolgdaaGreat

namespace Go.Proofs.YtmhlcnmfbolgdaaGreat
end Go.Proofs.YtmhlcnmfbolgdaaGreat

namespace Go.Proofs.YtmhlcnmfbolgdaaGreat
open Go.RowKit Go.Sort Go.Lib
def encKy (x : Ky) : List Value := [.string x.1, .string x.2]
def KK : Kind Ky := ⟨39, 2, encKy, fun _ => rfl, by decide, fun x u hu => by simp [encKy] at hu; rcases hu with rfl | rfl <;> rfl⟩
theorem kk_at {w : World} {b off : Nat} {d : List Ky} (h : KK.At w b off d) (i : Nat) (hi : i < d.length) : w.cell? ⟨b, off + i * 2, none⟩ = some (.string d[i].1) ∧ w.cell? ⟨b, off + i * 2 + 1, none⟩ = some (.string d[i].2) :=
  ⟨h i hi 0 _ rfl, h i hi 1 _ rfl⟩
theorem Kind.flat {α : Type} [Inhabited α] (K : Kind α) (d : List α) (t : Nat) (h : t < d.length * K.k) : (K.cells d)[t]? = some (K.enc d[t / K.k]!)[t % K.k]! := by
  have hq : t / K.k < d.length := (Nat.div_lt_iff_lt_mul K.pos).2 h
  have hm : t % K.k < K.k := Nat.mod_lt _ K.pos
  have e : t / K.k * K.k + t % K.k = t := by rw [Nat.mul_comm]; exact Nat.div_add_mod t K.k
  have h1 := K.cells_get d (t / K.k) hq (t % K.k) hm
  rw [e] at h1
  rw [h1, getElem!_pos d (t / K.k) hq, List.getElem?_eq_getElem (by rw [K.len]; exact hm), getElem!_pos _ _ (by rw [K.len]; exact hm)]
theorem Kind.own_holds {α : Type} [Inhabited α] {K : Kind α} {n0 g n cap : Nat} {w : World} {d : List α} (h : K.Own n0 w (.slice (some ⟨g, 0, none⟩) n cap) d) : HoldsK K.enc K.k w g 0 d.toArray := by
  rcases h.2 with ⟨hv, _⟩ | ⟨g', cap', cur, hv, h1, h2, h3, h4, h5, h6⟩
  · cases hv
  · injection hv with e1 e2 e3
    injection e1 with e1
    injection e1 with e1 _ _
    subst e1
    intro j hj
    rw [size_flatK] at hj
    have hj' : j < d.length * K.k := by simpa using hj
    have hg := K.flat d j hj'
    rw [← h6, List.getElem?_take_of_lt hj'] at hg
    rw [get_flatK _ _ _ _ hj]
    constructor
    · simp only [World.cell?, h2, Nat.zero_add]
      have hq : j / K.k < d.length := (Nat.div_lt_iff_lt_mul K.pos).2 hj'
      have he : d[j / K.k]! = d.toArray[j / K.k]! := by
        rw [getElem!_pos d (j / K.k) hq, getElem!_pos d.toArray (j / K.k) (by simpa using hq)]; simp
      rw [← Array.getElem?_toList, hg, he]
      rfl
    · simp [World.frozen?, h2]
theorem below_sortK {α : Type} [Inhabited α] (enc : α → List Value) (k : Nat) {B : Nat} {w0 w : World} (h : Below B w0 w) (hB : B ≤ w.heap.size) (blk off n : Nat) (d : Array α) (os : Array Obj) (hb : B ≤ blk) : Below B w0 (sortWorldK enc k w blk off n d os) := by
  refine h.trans ⟨rfl, rfl, rfl, ?_, ?_⟩
  · simp [sortWorldK, putRowK]
  · intro k' hk
    have hks : k' < w.heap.size := by omega
    simp only [sortWorldK, Sort.grow, putRowK, putRow, mapBlock, Sort.ahead]
    rw [Array.getElem?_append_left (by simpa using hks), Array.getElem?_modify, if_neg (by omega)]
theorem Kind.own_sorted {α : Type} [Inhabited α] {K : Kind α} {n0 g n cap : Nat} {w : World} {d : List α} (h : K.Own n0 w (.slice (some ⟨g, 0, none⟩) n cap) d) (e : Array α) (he : e.size = d.length) (m : Nat) (os : Array Obj) :
    K.Own n0 (sortWorldK K.enc K.k w g 0 m e os) (.slice (some ⟨g, 0, none⟩) n cap) e.toList := by
  have hH := K.own_holds h
  rcases h.2 with ⟨hv, _⟩ | ⟨g', cap', cur, hv, h1, h2, h3, h4, h5, h6⟩
  · cases hv
  · injection hv with e1 e2 e3
    injection e1 with e1
    injection e1 with e1 _ _
    subst e1 e2 e3
    have hgl := (Array.getElem?_eq_some_iff.1 h2).1
    have hl : e.toList.length = d.length := by simpa using he
    have hheap : (sortWorldK K.enc K.k w g 0 m e os).heap[g]? = some (.cells (putCells id 0 (flatK K.enc K.k e) cur) K.T (0, 0)) := by
      simp only [sortWorldK, Sort.grow, putRowK, putRow, mapBlock, Sort.ahead]
      rw [Array.getElem?_append_left (by simpa using hgl), Array.getElem?_modify, if_pos rfl, h2]
      rfl
    have hH2 : HoldsK K.enc K.k (sortWorldK K.enc K.k w g 0 m e os) g 0 e := by
      exact holdsK_grow K.enc K.k _ os g 0 _ (by simpa [putRowK] using hgl) (holdsK_putRowK K.enc K.k (Sort.ahead w m) g 0 _ _ (holdsK_ahead K.enc K.k w m g 0 _ hH) (by simpa using he))
    have hsz : (putCells id 0 (flatK K.enc K.k e) cur).size = cur.size := by simp [putCells]
    refine ⟨by rw [K.cells_len], Or.inr ⟨g, cap, _, by rw [hl], h1, hheap, by rw [hl]; exact h3, h4, by rw [hsz]; exact h5, ?_⟩⟩
    apply List.ext_getElem?
    intro j
    rw [hl, List.getElem?_take]
    by_cases hj : j < d.length * K.k
    · have hje : j < e.size * K.k := by rw [he]; exact hj
      rw [if_pos hj, K.flat e.toList j (by rw [hl]; exact hj)]
      have := (hH2 j (by rw [size_flatK]; exact hje)).1
      rw [get_flatK _ _ _ _ (by first | exact hje | (rw [size_flatK]; exact hje))] at this
      simp only [World.cell?, hheap, Nat.zero_add] at this
      simp only [Option.isSome_none, Bool.false_eq_true, if_false] at this
      rw [Array.getElem?_toList, this]
      have hq : j / K.k < e.size := (Nat.div_lt_iff_lt_mul K.pos).2 hje
      have he2 : e.toList[j / K.k]! = e[j / K.k]! := by
        rw [getElem!_pos e (j / K.k) hq, getElem!_pos e.toList (j / K.k) (by simpa using hq)]; simp
      rw [he2]
      rfl
    · rw [if_neg hj, List.getElem?_eq_none]
      rw [K.cells_len, hl]
      omega
theorem Kind.own_ge {α : Type} {K : Kind α} {n0 g n cap : Nat} {w : World} {d : List α} (h : K.Own n0 w (.slice (some ⟨g, 0, none⟩) n cap) d) : n0 ≤ g ∧ g < w.heap.size ∧ d.length ≤ cap ∧ cap ≤ maxLen := by
  rcases h.2 with ⟨hv, _⟩ | ⟨g', cap', cur, hv, h1, h2, h3, h4, _⟩
  · cases hv
  · injection hv with e1 e2 e3
    injection e1 with e1
    injection e1 with e1 _ _
    subst e1 e3
    exact ⟨h1, (Array.getElem?_eq_some_iff.1 h2).1, h3, h4⟩
theorem Kind.own_at {α : Type} {K : Kind α} {n0 g n cap : Nat} {w : World} {d : List α} (h : K.Own n0 w (.slice (some ⟨g, 0, none⟩) n cap) d) : K.At w g 0 d := by
  by_cases h0 : 0 < d.length
  · obtain ⟨g', e, _, _, hat, _⟩ := Kind.own_form h h0
    cases e
    exact hat
  · intro i hi; omega
theorem Kind.newsN {α : Type} (K : Kind α) (W : World) (x : α) (N : Nat) (hN : N = W.heap.size) : ∀ j u, (K.cells [x])[j]? = some u → (W.alloc (.cells (K.enc x).toArray K.T)).cell? ((⟨N, 0, none⟩ : Addr).add j) = some u := by
  subst hN
  exact K.news W x
end Go.Proofs.YtmhlcnmfbolgdaaGreat

namespace Go.Proofs.YtmhlcnmfbolgdaaGreat.Z
open Go.RowKit Go.Lib
theorem zown_at {w : World} {base g n cap : Nat} {dk : Array (ByteArray × ByteArray)} (h : Own w base (.slice (some ⟨g, 0, none⟩) n cap) dk.toList) (i : Nat) (hi : i < dk.size) :
    w.cell? ⟨g, i * 2, none⟩ = some (.string dk[i]!.1) ∧ w.cell? ⟨g, i * 2 + 1, none⟩ = some (.string dk[i]!.2) ∧ w.frozen? ⟨g, i * 2, none⟩ = false ∧ w.frozen? ⟨g, i * 2 + 1, none⟩ = false := by
  obtain ⟨rfl, hk⟩ := h.keysAt
  have := hk i (by simpa using hi)
  rw [Nat.zero_add] at this
  have e : dk.toList[i]'(by simpa using hi) = dk[i]! := by rw [getElem!_pos dk i hi]; simp
  rw [e] at this
  exact ⟨this.1, this.2, World.ownsRow.frozenAt h _, World.ownsRow.frozenAt h _⟩
theorem zown_frozen {w : World} {base g n cap : Nat} {d : List (ByteArray × ByteArray)} (h : Own w base (.slice (some ⟨g, 0, none⟩) n cap) d) (j : Nat) : w.frozen? ⟨g, j, none⟩ = false := by
  obtain ⟨rfl, _⟩ := h.keysAt
  exact World.ownsRow.frozenAt h j
theorem zown_some {w : World} {base g n cap : Nat} {d : List (ByteArray × ByteArray)} (h : Own w base (.slice (some ⟨g, 0, none⟩) n cap) d) (j : Nat) (hj : j < d.length * 2) : (w.cell? ⟨g, j, none⟩).isSome = true := by
  obtain ⟨rfl, _⟩ := h.keysAt
  rw [World.ownsRow.cellAt h j hj, List.getElem?_eq_getElem (by rw [cellsL_length]; exact hj)]
  rfl
theorem zown_store {w : World} {base g n cap : Nat} {dk : Array (ByteArray × ByteArray)} (h : Own w base (.slice (some ⟨g, 0, none⟩) n cap) dk.toList) (i : Nat) (hi : i < dk.size) (a b : ByteArray) :
    Own ((w.setCell ⟨g, i * 2, none⟩ (.string a)).setCell ⟨g, i * 2 + 1, none⟩ (.string b)) base (.slice (some ⟨g, 0, none⟩) n cap) (dk.setIfInBounds i (a, b)).toList := by
  obtain ⟨rfl, _⟩ := h.keysAt
  have h1 := (World.ownsRow.stored h (i * 2) (.string a)).1
  have h2 := (World.ownsRow.stored h1 (i * 2 + 1) (.string b)).1
  rw [cellsL_set _ _ _ _ (by simpa using hi)] at h2
  unfold Own
  simpa using h2
theorem zown_cut {w : World} {base g n cap : Nat} {xs : List Value} (h : w.ownsRow base 39 2 (.slice (some ⟨g, 0, none⟩) n cap) n xs) (k : Nat) (hk : k ≤ n) :
    w.ownsRow base 39 2 (.slice (some ⟨g, 0, none⟩) k cap) k (xs.take (k * 2)) := by
  obtain ⟨hl, h' | ⟨g', cap', cur, h', hb, hg, hnc, hcm, hcs, ht⟩⟩ := h
  · simp at h'
  · simp only [Value.slice.injEq, Option.some.injEq, Addr.mk.injEq, and_true, true_and] at h'
    obtain ⟨rfl, rfl⟩ := h'
    refine ⟨by rw [List.length_take, hl]; omega, .inr ⟨g, cap, cur, rfl, hb, hg, by omega, hcm, hcs, ?_⟩⟩
    rw [← ht, List.take_take, Nat.min_eq_left (by omega)]
theorem zown_setCells {base g k cap : Nat} {xs : List Value} : ∀ (vs : List Value) (o : Nat) (w : World), k * 2 ≤ o → w.ownsRow base 39 2 (.slice (some ⟨g, 0, none⟩) k cap) k xs →
    (w.setCells g o vs).ownsRow base 39 2 (.slice (some ⟨g, 0, none⟩) k cap) k xs
  | [], _, _, _, h => h
  | v :: vs, o, w, ho, h => by
    unfold World.setCells
    refine zown_setCells vs (o + 1) _ (by omega) ?_
    have := (World.ownsRow.stored h o v).1
    rwa [List.set_eq_of_length_le (by rw [h.1]; omega)] at this
theorem comp_done {d : List (ByteArray × ByteArray)} {kk : Nat} {dk : Array (ByteArray × ByteArray)} (hI : CompInv d.toArray d.length kk dk) : compact d = dk.toList.take kk := by
  have hs : dk.size = d.length := by simpa using hI.size
  have hlt := hI.lt
  unfold compact
  apply List.ext_getElem?
  intro j
  by_cases hj : j < kk
  · rw [hI.low j hj, List.getElem?_take_of_lt hj, List.getElem?_eq_getElem (by simp; omega), getElem!_pos dk j (by omega)]
    simp
  · rw [List.getElem?_eq_none (by rw [hI.len]; omega), List.getElem?_eq_none (by rw [List.length_take]; omega)]
set_option maxHeartbeats 2000000 in
theorem zcompact_own (g cap base : Nat) (d : List (ByteArray × ByteArray)) (w : World) (hown : Own w base (.slice (some ⟨g, 0, none⟩) d.length cap) d) (hcap : d.length ≤ cap) (hm : cap ≤ maxLen) :
    Calls Tryz.prog 293 #[.slice (some ⟨g, 0, none⟩) d.length cap] w fun e w' =>
      e = .returned (.slice (some ⟨g, 0, none⟩) (compact d).length cap) ∧ Own w' base (.slice (some ⟨g, 0, none⟩) (compact d).length cap) (compact d) ∧ Below g w w' := by
  unfold maxLen at hm
  have HO := hid hown
  clear hown
  have hsame : (∀ j, j < d.length → keeps d.toArray j = true) → compact d = d := compact_all d
  have HS := hid hsame
  clear hsame
  have heq := fun a b c d w => eql_key a b c d w
  have hneq := fun a b c d w => neq_key a b c d w
  by_cases h2 : d.length < 2
  · have h2' : (d.length : Int) < 2 := by omega
    go_enter Tryz.func293, Tryz.ntmps293
    go_wp2
    go_ret
    have e := HS.out (fun j hj => keeps_lt_one _ j (by omega))
    rw [e]
    exact ⟨rfl, HO.out, Below.refl _ _⟩
  · have h2' : ¬ (d.length : Int) < 2 := by omega
    go_enter Tryz.func293, Tryz.ntmps293
    go_wp2
    go_loopg [3] d.length (fun gh s3 wr => ∃ k q : Nat, 1 ≤ k ∧ k ≤ d.length ∧ d.length - k ≤ gh ∧ s3 = .int .i64 k ∧ wr = w.drewN q ∧ ∀ j, j < k → keeps d.toArray j = true)
    case atStart => exact ⟨1, 0, Nat.le_refl _, by omega, by omega, rfl, rfl, keeps_lt_one _⟩
    case round =>
      obtain ⟨k, q, hk1, hk, hg, rfl, rfl, hall⟩ := hrel
      have HA := hid hall
      clear hall
      by_cases hlt : k < d.length
      · have hD : d = d.toArray.toList := by simp
        have ho' : Own w base (.slice (some ⟨g, 0, none⟩) d.length cap) d.toArray.toList := by rw [← hD]; exact HO.out
        obtain ⟨a1, a2, _, _⟩ := zown_at ho' k (by simpa using hlt)
        obtain ⟨p1, p2, _, _⟩ := zown_at ho' (k - 1) (by simp; omega)
        have HV : Hid (d.toArray[k]! = d.toArray[k]! ∧ d.toArray[k - 1]! = d.toArray[k - 1]!) := ⟨rfl, rfl⟩
        have HO' := hid ho'
        clear ho' hD
        have hx : ∃ x y, d.toArray[k]! = x ∧ d.toArray[k - 1]! = y := ⟨_, _, rfl, rfl⟩
        obtain ⟨⟨x1, x2⟩, ⟨y1, y2⟩, ex, ey⟩ := hx
        rw [ex] at a1 a2
        rw [ey] at p1 p2
        have HE := hid (And.intro ex ey)
        clear ex ey HV
        have i1 : (0 : Int) ≤ ↑k - 1 := by omega
        have i2 : (↑k : Int) < ↑d.length := by omega
        have i3 : (↑k - 1 : Int) < ↑d.length := by omega
        by_cases hdup : (x1, x2) = (y1, y2)
        · obtain ⟨rfl, rfl⟩ := Prod.mk.inj hdup
          have hk2 := eqK_self x1 x2
          go_wp2_with fail
          go_quiet (fail)
          go_wp2_with fail
          have hstart : CompInv d.toArray (k + 1) k d.toArray := CompInv.start HA.out (keeps_neg (by omega) (by rw [HE.out.1, HE.out.2]))
          have HST := hid hstart
          clear hstart a1 a2 p1 p2 i1 i2 i3 hk2
          go_loopg [3, 5] d.length (fun gh s3 s5 wr => ∃ (kk k2 : Nat) (dk : Array (ByteArray × ByteArray)), s3 = .int .i64 kk ∧ s5 = .int .i64 k2 ∧ 1 ≤ k2 ∧ k + k2 ≤ d.length ∧ d.length - (k + k2) ≤ gh ∧ Own wr base (.slice (some ⟨g, 0, none⟩) d.length cap) dk.toList ∧ Below g w wr ∧ CompInv d.toArray (k + k2) kk dk)
          case atStart => exact ⟨k, 1, d.toArray, rfl, rfl, Nat.le_refl _, by omega, by omega, HO'.out, _root_.Go.below_drewN (Below.refl _ _) _, HST.out⟩
          case round =>
            obtain ⟨kk, k2, dk, rfl, rfl, h1, hle, hg2, ho2, hb2, hI⟩ := hrel
            have hkk := hI.lt
            have hds : dk.size = d.length := by simpa using hI.size
            have HI := hid hI
            have HO2 := hid ho2
            have HB2 := hid hb2
            by_cases hlt2 : k + k2 < d.length
            · obtain ⟨a1, a2, _, _⟩ := zown_at ho2 (k + k2) (by omega)
              obtain ⟨p1, p2, _, _⟩ := zown_at ho2 (k + k2 - 1) (by omega)
              obtain ⟨b1, b2, b3, b4⟩ := zown_at ho2 kk (by omega)
              rw [hI.high (k + k2) (by omega), show (k + k2) * 2 = k * 2 + k2 * 2 by omega] at a1 a2
              rw [hI.high (k + k2 - 1) (by omega), show (k + k2 - 1) * 2 = k * 2 + (k2 - 1) * 2 by omega] at p1 p2
              have hx : ∃ x y, d.toArray[k + k2]! = x ∧ d.toArray[k + k2 - 1]! = y := ⟨_, _, rfl, rfl⟩
              obtain ⟨⟨u1, u2⟩, ⟨v1, v2⟩, ex, ey⟩ := hx
              rw [ex] at a1 a2
              rw [ey] at p1 p2
              have HU := hid (And.intro ex ey)
              clear ex ey ho2 hb2 hI
              generalize dk[kk]!.1 = o1 at *
              generalize dk[kk]!.2 = o2 at *
              have i1 : (0 : Int) ≤ ↑k2 - 1 := by omega
              have i2 : (↑k2 : Int) < ↑(d.length - k) := by omega
              have i3 : (↑k2 - 1 : Int) < ↑(d.length - k) := by omega
              by_cases huv : (u1, u2) = (v1, v2)
              · obtain ⟨rfl, rfl⟩ := Prod.mk.inj huv
                have hk2 := eqK_self u1 u2
                go_wp2_with fail
                go_quiet (fail)
                go_wp2_with fail
                go_roundg (d.length - (k + (k2 + 1)))
                case measure => omega
                case rel => exact ⟨kk, k2 + 1, dk, rfl, by go_num, by omega, by omega, Nat.le_refl _, HO2.out, _root_.Go.below_drewN HB2.out _, HI.out.skip (keeps_neg (by omega) (by rw [HU.out.1, HU.out.2]))⟩
              · have hk2 : eqK u1 u2 v1 v2 = false := by rw [eqK_iff (u1, u2) (v1, v2)]; simpa using huv
                have HN := hid huv
                clear huv
                go_wp2_with fail
                go_quiet (fail)
                go_wp2_with fail
                go_roundg (d.length - (k + (k2 + 1)))
                case measure => omega
                case rel =>
                  refine ⟨kk + 1, k2 + 1, dk.setIfInBounds kk (u1, u2), by go_num, by go_num, by omega, by omega, Nat.le_refl _, zown_store HO2.out kk (by omega) u1 u2, _root_.Go.below_drewN ((HB2.out.setCell (Nat.le_refl _) _).setCell (Nat.le_refl _) _) _, ?_⟩
                  have := HI.out.keep (by simpa using hlt2) (keeps_pos (by rw [HU.out.1, HU.out.2]; exact HN.out))
                  rwa [HU.out.1] at this
            · have hend : k + k2 = d.length := by omega
              have hcl : ∀ ty, (Builtin.clear_ #[50] ty #[.slice (some ⟨g, kk * 2, none⟩) (d.length - kk) (cap - kk)]).run Tryz.prog wr = .ok (.tuple #[]) (wr.setCells g (kk * 2) (List.replicate ((d.length - kk) * 2) (.string ⟨#[]⟩))) := by
                intro ty
                refine run_clear_key wr ty g (kk * 2) (d.length - kk) (cap - kk) (by omega) ?_ ?_
                · intro j hj
                  exact zown_some ho2 _ (by rw [Array.length_toList]; omega)
                · intro j _
                  exact zown_frozen ho2 _
              generalize hz : List.replicate ((d.length - kk) * 2) (Value.string ⟨#[]⟩) = zs at hcl
              have hdone : compact d = dk.toList.take kk := by
                rw [hend] at hI
                exact comp_done hI
              have HD := hid hdone
              clear hz hdone hI ho2 hb2
              have hlen0 : ¬ k + k2 < d.length := hlt2
              go_wp2_with fail
              go_ret
              have hlk : (compact d).length = kk := by rw [HD.out, List.length_take, Array.length_toList]; omega
              rw [hlk]
              refine ⟨rfl, ?_, below_setCells g (Nat.le_refl _) _ _ HB2.out⟩
              have ho3 := HO2.out
              have hl3 : dk.toList.length = d.length := by rw [Array.length_toList]; exact hds
              unfold Own at ho3 ⊢
              rw [hl3] at ho3
              have h4 := zown_setCells zs (kk * 2) wr (Nat.le_refl _) (zown_cut ho3 kk (by omega))
              rw [cellsL_take, ← HD.out] at h4
              rw [hlk]
              exact h4
        · have hk2 : eqK x1 x2 y1 y2 = false := by rw [eqK_iff (x1, x2) (y1, y2)]; simpa using hdup
          have HN := hid hdup
          clear hdup
          go_wp2_with fail
          go_quiet (fail)
          go_wp2_with fail
          go_roundg (d.length - (k + 1))
          case measure => omega
          case rel =>
            refine ⟨k + 1, q + nq, by omega, by omega, Nat.le_refl _, by go_num, by simp, fun j hj => ?_⟩
            by_cases e : j = k
            · subst e
              exact keeps_pos (by rw [HE.out.1, HE.out.2]; exact HN.out)
            · exact HA.out j (by omega)
      · have hkd : k = d.length := by omega
        have e := HS.out (fun j hj => HA.out j (by omega))
        have HE := hid e
        clear e hkd
        go_wp2
        go_ret
        rw [HE.out]
        exact ⟨rfl, HO.out, _root_.Go.below_drewN (Below.refl _ _) _⟩
end Go.Proofs.YtmhlcnmfbolgdaaGreat.Z

namespace Go.Proofs.YtmhlcnmfbolgdaaGreat.Z
open Go.Lib Go.Sort
def ahead (x y : ByteArray × ByteArray) : Prop := cmpK x y < 0
theorem ahead_iff (x y : ByteArray × ByteArray) : ltOf cmpK x y = true ↔ ahead x y := by
  unfold ltOf ahead; rw [decide_eq_true_iff]
theorem ahead_trans {x y z : ByteArray × ByteArray} (h1 : ahead x y) (h2 : ahead y z) : ahead x z := cmpL_lt_trans _ _ _ _ _ _ h1 h2
theorem ahead_total (x y : ByteArray × ByteArray) : ahead x y ∨ x = y ∨ ahead y x := by
  have hn : cmpK y x = - cmpK x y := cmpL_neg _ _ _ _
  have hr : cmpK x y = -1 ∨ cmpK x y = 0 ∨ cmpK x y = 1 := cmpL_range _ _ _ _
  rcases hr with h | h | h
  · left; unfold ahead; omega
  · right; left
    obtain ⟨h1, h2⟩ := (cmpL_zero _ _ _ _).1 h
    obtain ⟨⟨⟨a⟩⟩, ⟨⟨b⟩⟩⟩ := x
    obtain ⟨⟨⟨c⟩⟩, ⟨⟨d⟩⟩⟩ := y
    simp at h1 h2
    rw [h1, h2]
  · right; right; unfold ahead; omega
def Rises (r : List (ByteArray × ByteArray)) : Prop := r.Pairwise ahead
theorem compact_rises (d : Array (ByteArray × ByteArray)) (n : Nat) (hs : SortedIn (ltOf cmpK) 0 n d) : ∀ m, m ≤ n →
    Rises (compactUpTo d m) ∧ (∀ x, x ∈ compactUpTo d m → ∃ j, j < m ∧ x = d[j]!) ∧ (∀ j, j < m → d[j]! ∈ compactUpTo d m) := by
  intro m
  induction m with
  | zero => intro _; exact ⟨List.Pairwise.nil, fun x hx => by simp [compactUpTo] at hx, fun j hj => by omega⟩
  | succ m ih =>
    intro hm
    obtain ⟨h1, h2, h3⟩ := ih (by omega)
    rw [compactUpTo_succ]
    have notlt : ∀ i, i < m → ahead d[i]! d[m]! ∨ d[i]! = d[m]! := by
      intro i hi
      have := hs i m (Nat.zero_le _) hi (by omega)
      rcases ahead_total d[i]! d[m]! with h | h | h
      · exact .inl h
      · exact .inr h
      · rw [(ahead_iff _ _).2 h] at this; cases this
    by_cases hk : keeps d m = true
    · rw [if_pos hk]
      refine ⟨?_, ?_, ?_⟩
      · refine List.pairwise_append.2 ⟨h1, List.pairwise_singleton _ _, fun x hx y hy => ?_⟩
        rw [List.mem_singleton] at hy
        subst hy
        obtain ⟨j, hj, rfl⟩ := h2 x hx
        have hne : d[m]! ≠ d[m - 1]! := by
          have : m = 0 ∨ d[m]! ≠ d[m - 1]! := by simpa [keeps] using hk
          rcases this with h | h
          · omega
          · exact h
        have hlast : ahead d[m - 1]! d[m]! := by
          rcases notlt (m - 1) (by omega) with h | h
          · exact h
          · exact absurd h.symm hne
        by_cases hjm : j = m - 1
        · rw [hjm]; exact hlast
        · have := hs j (m - 1) (Nat.zero_le _) (by omega) (by omega)
          rcases ahead_total d[j]! d[m - 1]! with h | h | h
          · exact ahead_trans h hlast
          · rw [h]; exact hlast
          · rw [(ahead_iff _ _).2 h] at this; cases this
      · intro x hx
        rcases List.mem_append.1 hx with h | h
        · obtain ⟨j, hj, e⟩ := h2 x h
          exact ⟨j, by omega, e⟩
        · exact ⟨m, by omega, List.mem_singleton.1 h⟩
      · intro j hj
        by_cases hjm : j = m
        · subst hjm; exact List.mem_append_right _ (List.mem_singleton.2 rfl)
        · exact List.mem_append_left _ (h3 j (by omega))
    · have hk' : keeps d m = false := by simpa using hk
      rw [if_neg hk, List.append_nil]
      refine ⟨h1, fun x hx => ?_, fun j hj => ?_⟩
      · obtain ⟨j, hj, e⟩ := h2 x hx
        exact ⟨j, by omega, e⟩
      · by_cases hjm : j = m
        · subst hjm
          have : j ≠ 0 ∧ d[j]! = d[j - 1]! := by simpa [keeps] using hk'
          rw [this.2]
          exact h3 (j - 1) (by have := this.1; omega)
        · exact h3 j (by omega)
theorem sorted_compact (l : List (ByteArray × ByteArray)) (d : Array (ByteArray × ByteArray)) (hp : PermIn 0 l.length l.toArray d) (hs : SortedIn (ltOf cmpK) 0 l.length d) :
    Rises (compact d.toList) ∧ (∀ x, x ∈ compact d.toList ↔ x ∈ l) ∧ d.size = l.length := by
  obtain ⟨h1, _, h3⟩ := hp
  have hsz : d.size = l.length := by simpa using h1
  have hperm : d.toList.Perm l := by
    have e1 : (d.extract 0 l.length).toList = d.toList := by rw [← hsz]; simp
    have e2 : (l.toArray.extract 0 l.length).toList = l := by simp
    rw [e1, e2] at h3
    exact h3
  have hd : d.toList.toArray = d := by simp
  obtain ⟨r1, r2, r3⟩ := compact_rises d l.length hs l.length (Nat.le_refl _)
  have e : compact d.toList = compactUpTo d l.length := by
    unfold compact
    rw [hd, Array.length_toList, hsz]
  rw [e]
  refine ⟨r1, fun x => ?_, hsz⟩
  rw [← hperm.mem_iff]
  constructor
  · intro hx
    obtain ⟨j, hj, rfl⟩ := r2 x hx
    rw [getElem!_pos d j (by omega)]
    exact Array.getElem_mem_toList ..
  · intro hx
    obtain ⟨j, hj, rfl⟩ := List.mem_iff_getElem.1 hx
    have hj' : j < d.size := by simpa using hj
    have := r3 j (by omega)
    rw [getElem!_pos d j hj'] at this
    simpa using this
end Go.Proofs.YtmhlcnmfbolgdaaGreat.Z

namespace Go.Proofs.YtmhlcnmfbolgdaaGreat.Z
open Go.RowKit Go.Sort Go.Lib
theorem size_putCells (enc : Value → Value) (off : Nat) (d c : Array Value) : (putCells enc off d c).size = c.size := by
  unfold putCells; simp
theorem zown_sorted {w1 : World} {base g cap n : Nat} {cur : Array Value} {os : Array Obj} (d d' : Array (ByteArray × ByteArray)) (hb : base ≤ g) (hg : g < w1.heap.size) (hheap : w1.heap[g]? = some (.cells cur 39 (0, 0)))
    (hcap : d.size ≤ cap) (hm : cap ≤ maxLen) (hsz : cur.size = cap * 2) (hH : HoldsK encKey 2 w1 g 0 d) (hd : d'.size = d.size) :
    Own (sortWorldK encKey 2 w1 g 0 n d' os) base (.slice (some ⟨g, 0, none⟩) d'.size cap) d'.toList := by
  have hH2 : HoldsK encKey 2 (sortWorldK encKey 2 w1 g 0 n d' os) g 0 d' :=
    holdsK_grow encKey 2 _ os g 0 _ (by simpa [putRowK] using hg) (holdsK_putRowK encKey 2 (Sort.ahead w1 n) g 0 _ _ (holdsK_ahead encKey 2 w1 n g 0 _ hH) hd)
  have hh : (sortWorldK encKey 2 w1 g 0 n d' os).heap[g]? = some (.cells (putCells id 0 (flatK encKey 2 d') cur) 39 (0, 0)) := by
    simp only [sortWorldK, grow, putRowK, putRow, mapBlock, Sort.ahead]
    rw [Array.getElem?_append_left (by simpa using hg), Array.getElem?_modify, if_pos rfl, hheap]
    rfl
  refine ⟨cellsL_length _, .inr ⟨g, cap, _, by simp, hb, hh, by simp; omega, hm, by rw [size_putCells, hsz], ?_⟩⟩
  apply List.ext_getElem?
  intro j
  by_cases hj : j < d'.size * 2
  · rw [List.getElem?_take_of_lt (by simpa using hj)]
    have h1 := (hH2 j (by simpa using hj)).1
    simp only [World.cell?, hh, Nat.zero_add] at h1
    rw [get_flatK _ _ _ _ hj] at h1
    have h2 := flat_get d'.toList j (by simpa using hj)
    have he : d'.toList[j / 2]! = d'[j / 2]! := by
      rw [getElem!_pos d' (j / 2) (by omega), getElem!_pos d'.toList (j / 2) (by simp; omega)]; simp
    rw [he] at h2
    have h3 : (putCells id 0 (flatK encKey 2 d') cur)[j]? = some (encKey d'[j / 2]!)[j % 2]! := h1
    rw [Array.getElem?_toList, h3]
    exact h2.symm
  · rw [List.getElem?_eq_none (by rw [List.length_take]; simp; omega), List.getElem?_eq_none (by rw [cellsL_length]; simp; omega)]
set_option maxHeartbeats 800000 in
theorem zsort_any (b off c : Nat) (d : List (ByteArray × ByteArray)) (w : World) (hk : KeysAt w b off d) (hbytes : d.length * 32 ≤ 140737488355328) :
    Calls Tryz.prog 218 #[.slice (some ⟨b, off, none⟩) d.length c] w fun e w' =>
      ∃ v r, e = .returned v ∧ Rises r ∧ (∀ x, x ∈ r ↔ x ∈ d) ∧ r.length ≤ d.length ∧ Own w' w.heap.size v r ∧ v ≠ .slice none 0 0 ∧ Below w.heap.size w w' := by
  have hnews : ∀ j u, (cellsL d)[j]? = some u → w.cell? ⟨b, off + j, none⟩ = some u := by
    intro j u hu
    have hj : j < d.length * 2 := by
      rw [← cellsL_length]
      rcases Nat.lt_or_ge j (cellsL d).length with h | h
      · exact h
      · rw [List.getElem?_eq_none h] at hu; cases hu
    obtain ⟨h1, h2⟩ := hk (j / 2) (by omega)
    obtain ⟨e1, e2⟩ := cellsL_get d (j / 2) (by omega)
    rcases Nat.mod_two_eq_zero_or_one j with hm | hm
    · have ej : j / 2 * 2 = j := by omega
      rw [ej] at h1 e1
      rw [e1] at hu
      rw [h1, ← hu]
    · have ej : j / 2 * 2 + 1 = j := by omega
      rw [Nat.add_assoc, ej] at h2
      rw [ej] at e2
      rw [e2] at hu
      rw [h2, ← hu]
  have hcl := zclone_any b off d.length c (cellsL d) w (cellsL_length d) (by unfold maxLen; omega) hbytes hnews (cellsL_one d)
  have H := hid hcl
  clear hnews hk hcl
  go_enter Tryz.func218, Tryz.ntmps218
  go_wp2_with fail
  refine H.out.mono ?_
  rintro e w1 ⟨v', rfl, ⟨hl, hor⟩, hne, hq1⟩
  rcases hor with ⟨h1, h2⟩ | ⟨g1, cap, cur, rfl, hbase, hheap, hcap, hcapm, hsz, htake⟩
  · exact absurd h1 hne
  have hg1 : g1 < w1.heap.size := by
    rcases Nat.lt_or_ge g1 w1.heap.size with h | h
    · exact h
    · rw [Array.getElem?_eq_none h] at hheap; cases hheap
  have hH : HoldsK encKey 2 w1 g1 0 d.toArray := holds_of_heap d.toArray hheap (by simpa [cellsK, cellsL] using htake)
  have hcon := zsortfunc_any g1 0 cap d.toArray w1 hH hg1 (by simp; omega)
  rw [show d.toArray.size = d.length by simp] at hcon
  have HC := hid hcon
  have HH := hid (And.intro hH (And.intro hheap hsz))
  clear hcon hH hl hne hheap htake hsz
  go_wp2_with fail
  refine HC.out.mono ?_
  rintro e w2 ⟨rfl, d', n, os, hperm, hsorted, hw2⟩
  obtain ⟨hr, hmem, hds⟩ := sorted_compact d d' hperm hsorted
  have ho2 : Own w2 w.heap.size (.slice (some ⟨g1, 0, none⟩) d'.size cap) d'.toList := by
    rw [hw2]
    exact zown_sorted d.toArray d' hbase hg1 HH.out.2.1 (by simpa using hcap) hcapm HH.out.2.2 HH.out.1 (by simpa using hds)
  have hq2 : Below w.heap.size w w2 := by
    rw [hw2]; exact below_sortWorld hq1 hq1.size g1 0 n _ os hbase
  have hcomp := zcompact_own g1 cap w.heap.size d'.toList w2 (by rw [Array.length_toList]; exact ho2) (by rw [Array.length_toList]; omega) hcapm
  rw [Array.length_toList, hds] at hcomp
  have HCC := hid hcomp
  have HR := hid (And.intro hr hmem)
  have hlen : (compact d'.toList).length ≤ d.length := by
    have h5 : (compact d'.toList).length ≤ d'.size := by
      unfold compact compactUpTo
      rw [List.length_map]
      exact Nat.le_trans (List.length_filter_le _ _) (by simp)
    exact Nat.le_trans h5 (Nat.le_of_eq hds)
  have HLEN := hid hlen
  clear hw2 hperm hsorted hcomp hr hmem ho2 hlen hds
  go_wp2_with fail
  refine HCC.out.mono ?_
  rintro e w3 ⟨rfl, ho3, hq3⟩
  go_wp2_with fail
  go_ret
  exact ⟨_, _, rfl, HR.out.1, HR.out.2, HLEN.out, ho3, by simp, hq2.trans (hq3.mono hbase)⟩
end Go.Proofs.YtmhlcnmfbolgdaaGreat.Z

namespace Go.Proofs.YtmhlcnmfbolgdaaGreat
open Go.RowKit
theorem z_at {w : World} {b off : Nat} {d : List Ky} (h : KK.At w b off d) : Z.KeysAt w b off d := fun i hi => kk_at h i hi
theorem z_lt (x y : Ky) : Z.ahead x y ↔ ltKy x y = true := by
  unfold Z.ahead Z.cmpK Z.cmpI Z.orI
  rw [ltKy_true]
  unfold ltB
  rw [decide_eq_true_iff, decide_eq_true_iff]
  by_cases h : Lib.compareBytes x.1.data.toList y.1.data.toList = 0
  · rw [if_pos h]
    have e : x.1 = y.1 := ba_eq ((cb_zero _ _).1 h)
    constructor
    · intro k; exact Or.inr ⟨e, k⟩
    · rintro (k | ⟨_, k⟩)
      · omega
      · exact k
  · rw [if_neg h]
    constructor
    · intro k; exact Or.inl k
    · rintro (k | ⟨e, _⟩)
      · exact k
      · rw [e, cb_self] at h; exact absurd rfl h
theorem z_rises {r : List Ky} (h : Z.Rises r) : RisingR ltKy r := h.imp fun {x y} hxy => (z_lt x y).1 hxy
def sortK (ks : List Ky) : List Ky := ks.foldl (fun acc x => insR ltKy x acc) []
theorem sortK_spec (ks : List Ky) : RisingR ltKy (sortK ks) ∧ ∀ z, z ∈ sortK ks ↔ z ∈ ks := by
  have : ∀ (l acc : List Ky), RisingR ltKy acc → RisingR ltKy (l.foldl (fun acc x => insR ltKy x acc) acc) ∧ ∀ z, z ∈ l.foldl (fun acc x => insR ltKy x acc) acc ↔ z ∈ acc ∨ z ∈ l := by
    intro l
    induction l with
    | nil => intro acc h; exact ⟨h, fun z => by simp⟩
    | cons y l ih =>
      intro acc h
      obtain ⟨h1, h2⟩ := ih (insR ltKy y acc) (rising_insR totK y h)
      refine ⟨h1, fun z => ?_⟩
      rw [List.foldl_cons, h2, mem_insR, List.mem_cons]
      constructor
      · rintro ((h | h) | h)
        · exact Or.inr (Or.inl h)
        · exact Or.inl h
        · exact Or.inr (Or.inr h)
      · rintro (h | h | h)
        · exact Or.inl (Or.inr h)
        · exact Or.inl (Or.inl h)
        · exact Or.inr h
  obtain ⟨h1, h2⟩ := this ks [] List.Pairwise.nil
  exact ⟨h1, fun z => by rw [sortK, h2]; simp⟩
set_option maxHeartbeats 1000000 in
theorem sortfunc_nil (W : World) : Calls Tryz.prog 256 #[.slice none 0 0, .func (.func 166) #[] #[]] W fun e w' => e = .returned (.tuple #[]) ∧ w' = W := by
  have hi : ∀ W, Calls Tryz.prog 373 #[.slice none 0 0, .int .i64 0, .int .i64 0, .func (.func 166) #[] #[]] W fun e w' => e = .returned (.tuple #[]) ∧ w' = W := fun W => by
    go_enter Tryz.func373, Tryz.ntmps373
    go_wp2_with fail
    refine wp_loop_rounds 1 ?_
    rw [rounds_succ]
    go_wp2_with fail
    go_end0
    exact ⟨rfl, rfl⟩
  have HI := hid hi
  clear hi
  have hp : ∀ (l : Int) W, Calls Tryz.prog 333 #[.slice none 0 0, .int .i64 0, .int .i64 0, .int .i64 l, .func (.func 166) #[] #[]] W fun e w' => e = .returned (.tuple #[]) ∧ w' = W := fun l W => by
    go_enter Tryz.func333, Tryz.ntmps333
    go_wp2_with fail
    refine wp_loop_rounds 1 ?_
    rw [rounds_succ]
    go_wp2_with (first | (go_at_call 373; refine (HI.out _).mono ?_; rintro e w1 ⟨rfl, rfl⟩))
    refine bodyPost_ret (results_none (h := Tryz.results333) _ _ _) rfl ?_
    exact ⟨rfl, rfl⟩
  have HP := hid hp
  clear hp
  go_enter Tryz.func256, Tryz.ntmps256
  go_wp2_with (first | (go_at_call 320; refine (Tryz.bits_Len 0 _ (by omega) (by omega)).mono ?_; rintro e w1 ⟨rfl, rfl⟩) | (go_at_call 333; refine (HP.out _ _).mono ?_; rintro e w1 ⟨rfl, rfl⟩))
  go_end0
  exact ⟨rfl, rfl⟩
set_option maxHeartbeats 1000000 in
theorem nsort_nil (w : World) : Calls Tryz.prog 218 #[.slice none 0 0] w fun e w' => e = .returned (.slice none 0 0) ∧ w' = w := by
  have q22 : ∀ (w : World) (a : Option Addr) (n c n' c' : Nat), (binOp .eql 50 (.slice a n c) (.slice none n' c')).run Tryz.prog w = .ok (.bool a.isNone) w := fun w a n c n' c' => Lib.run_eql_slice_nil w _ _ a n c n' c' Tryz.underlying50
  have hclone : ∀ W, Calls Tryz.prog 248 #[.slice none 0 0] W fun e w' => e = .returned (.slice none 0 0) ∧ w' = W := fun W => by
    go_enter Tryz.func248, Tryz.ntmps248
    go_wp2_with fail
    go_ret
    exact ⟨rfl, rfl⟩
  have HC := hid hclone
  clear hclone
  have hs : ∀ W, Calls Tryz.prog 256 #[.slice none 0 0, .func (.func 166) #[] #[]] W fun e w' => e = .returned (.tuple #[]) ∧ w' = W := fun W => sortfunc_nil W
  have HS := hid hs
  clear hs
  have hk : ∀ W, Calls Tryz.prog 293 #[.slice none 0 0] W fun e w' => e = .returned (.slice none 0 0) ∧ w' = W := fun W => by
    go_enter Tryz.func293, Tryz.ntmps293
    go_wp2_with fail
    go_ret
    exact ⟨rfl, rfl⟩
  have HK := hid hk
  clear hk
  go_enter Tryz.func218, Tryz.ntmps218
  go_wp2_with (first
    | (go_at_call 248; refine (HC.out _).mono ?_; rintro e w1 ⟨rfl, rfl⟩)
    | (go_at_call 256; refine (HS.out _).mono ?_; rintro e w1 ⟨rfl, rfl⟩)
    | (go_at_call 293; refine (HK.out _).mono ?_; rintro e w1 ⟨rfl, rfl⟩))
  go_ret
  exact ⟨rfl, rfl⟩
theorem nsort_own (n0 : Nat) (v : Value) (ks : List Ky) (w : World) (h : KK.Own n0 w v ks) (hl : ks.length ≤ 4398046511104) :
    Calls Tryz.prog 218 #[v] w fun e w' => ∃ u, e = .returned u ∧ KK.Own w.heap.size w' u (sortK ks) ∧ Below w.heap.size w w' := by
  rcases h.2 with ⟨rfl, hz⟩ | ⟨g, cap, cur, rfl, _⟩
  · obtain rfl := List.length_eq_zero_iff.1 hz
    refine (nsort_nil w).mono ?_
    rintro e w' ⟨rfl, rfl⟩
    exact ⟨_, rfl, KK.own_nil _ _, Below.refl _ _⟩
  · refine (Z.zsort_any g 0 cap ks w (z_at (Kind.own_at h)) (by omega)).mono ?_
    rintro e w' ⟨u, r, rfl, hr, hm, _, ho, _, hb⟩
    refine ⟨u, rfl, ?_, hb⟩
    have : r = sortK ks := rising_uniqR totK (z_rises hr) (sortK_spec ks).1 fun z => (hm z).trans ((sortK_spec ks).2 z).symm
    rw [← this]
    exact ho
end Go.Proofs.YtmhlcnmfbolgdaaGreat
