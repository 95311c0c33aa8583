/-
  Texts of this claim, one behind the other: Plain Leaf Tac Spell Shelf Fld Cfm May0 May Bld Dec0 Dec1 Equ Sam Dec2 Gen Cv0 Cr0 Cr1 Cr2 Stba Stbb Ord Sor Tex Joa Job Stbc Stc Std Ste Stf Joc App.
-/
import GoSem.Claim
import Derived.Test.YtipbdpjnabeilaaProg
import Derived.WalkKit
import Derived.WalkSpells
import Derived.WalkLawsBesides
import Derived.Laws.Rows
import Derived.Deep.LoopGhost
import Derived.Deep.QuietTactic
import Derived.Deep.DrawnRows
import Derived.Deep.RegionHeld3
import Derived.Deep.AppendLies
import Derived.BigQuiet
import Derived.BigRegion
import Derived.LoopN
import Derived.OwnWalk
import Derived.Laws.OwnMore
import Derived.Laws.MakeOwn
import Derived.Shelf.SlSortCmp.QuietGrown
import Derived.Ground.Names2Prog
import Derived.Shelf.Slices.Clone
import Derived.Ground.SlgnProg
import Derived.Shelf.SlicesE.Clone
import Derived.Ground.SlgfProg
import Derived.Shelf.SlicesE.IndexFunc
import Derived.Shelf.SlGeneric
import Derived.Shelf.SlicesQ.IndexFunc
import Derived.Shelf.SlSortCmp.InsertionK
import Derived.Ground.NamesProg
import Derived.Shelf.Lays
import Derived.Shelf.SlLaysE0
import Derived.Lib.Strings
import Derived.Deep.CutRange
import Derived.Sort.LotA
import Derived.Lib.Bytealg
import Derived.Shelf.SlSortCmp.KitK
import Derived.Sort.WalkB2
import Derived.Sort.WalkB12
/-
  The plain mathematics of package name: which bytes and which texts are what, with no word of the program.
-/
namespace Go.Proofs.Ytipbdpjnabeilaa

def bigB (n : Int) : Bool := decide (65 ≤ n) && decide (n ≤ 90)
def smallB (n : Int) : Bool := decide (97 ≤ n) && decide (n ≤ 122)
def digB (n : Int) : Bool := decide (48 ≤ n) && decide (n ≤ 57)
def letB (n : Int) : Bool := bigB n || smallB n
def lodB (n : Int) : Bool := letB n || digB n
def idB (n : Int) : Bool := lodB n || n == 45 || n == 46

theorem bigB_true {n : Int} : bigB n = true ↔ 65 ≤ n ∧ n ≤ 90 := by simp [bigB]
theorem smallB_true {n : Int} : smallB n = true ↔ 97 ≤ n ∧ n ≤ 122 := by simp [smallB]
theorem digB_true {n : Int} : digB n = true ↔ 48 ≤ n ∧ n ≤ 57 := by simp [digB]

/-- A text of 1 to 32 bytes: the first as f says, each behind it as g says. -/
def spell (f g : Int → Bool) (l : List UInt8) : Bool :=
  match l with
  | [] => false
  | c :: r => decide (r.length + 1 ≤ 32) && f (c.toNat : Int) && r.all fun x => g (x.toNat : Int)

def typeB (l : List UInt8) : Bool := spell bigB letB l
def idenB (l : List UInt8) : Bool := spell idB idB l
def fieldB (l : List UInt8) : Bool := spell smallB lodB l
def tempB (l : List UInt8) : Bool := spell lodB lodB l

theorem spell_unfold (f g : Int → Bool) (s : ByteArray) (h : 0 < s.size) :
    spell f g s.data.toList = (decide (s.size ≤ 32) && f (s[0].toNat : Int) && (s.data.toList.drop 1).all fun x => g (x.toNat : Int)) := by
  obtain ⟨⟨l⟩⟩ := s
  cases l with
  | nil => exact absurd h (Nat.lt_irrefl 0)
  | cons c r => rfl

theorem spell_empty (f g : Int → Bool) (s : ByteArray) (h : s.size = 0) : spell f g s.data.toList = false := by
  obtain ⟨⟨l⟩⟩ := s
  cases l with
  | nil => rfl
  | cons c r => exact absurd h (Nat.succ_ne_zero _)

theorem spell_long (f g : Int → Bool) (s : ByteArray) (h : 32 < s.size) : spell f g s.data.toList = false := by
  rw [spell_unfold f g s (by omega)]
  have : ¬ s.size ≤ 32 := by omega
  simp [this]

theorem spell_first (f g : Int → Bool) (s : ByteArray) (h : 0 < s.size) (hf : f (s[0].toNat : Int) = false) : spell f g s.data.toList = false := by
  rw [spell_unfold f g s h]
  simp [hf]

theorem byte_at (s : ByteArray) (k : Nat) (h : k < s.size) : s.data.toList[k]'(by simpa using h) = s[k] := rfl

theorem spell_at (f g : Int → Bool) (s : ByteArray) (k : Nat) (h1 : 1 ≤ k) (h : k < s.size) (hg : g (s[k].toNat : Int) = false) : spell f g s.data.toList = false := by
  rw [spell_unfold f g s (by omega)]
  have : ((s.data.toList.drop 1).all fun x => g (x.toNat : Int)) = false := by
    rw [Bool.eq_false_iff]
    intro hall
    rw [List.all_eq_true] at hall
    have hl : k < s.data.toList.length := by simpa using h
    have hm : s[k] ∈ s.data.toList.drop 1 := by
      rw [← byte_at s k h, List.mem_iff_getElem]
      refine ⟨k - 1, by simp at hl ⊢; omega, ?_⟩
      rw [List.getElem_drop]
      congr 1
      omega
    have := hall _ hm
    rw [hg] at this
    cases this
  rw [this]; simp

theorem spell_true (f g : Int → Bool) (s : ByteArray) (h : 0 < s.size) (h32 : s.size ≤ 32) (hf : f (s[0].toNat : Int) = true)
    (hg : ∀ k, 1 ≤ k → (hk : k < s.size) → g (s[k].toNat : Int) = true) : spell f g s.data.toList = true := by
  rw [spell_unfold f g s h]
  have : ((s.data.toList.drop 1).all fun x => g (x.toNat : Int)) = true := by
    rw [List.all_eq_true]
    intro x hx
    rw [List.mem_iff_getElem] at hx
    obtain ⟨j, hj, rfl⟩ := hx
    rw [List.getElem_drop]
    have hj2 : 1 + j < s.size := by simp at hj; omega
    exact hg (1 + j) (by omega) hj2
  rw [this]; simp [h32, hf]

end Go.Proofs.Ytipbdpjnabeilaa

/-
  The contracts of the functions that look at one byte.
-/
namespace Go.Proofs.Ytipbdpjnabeilaa
open Go.RowKit

theorem hid {p : Prop} (h : p) : Hid p := h
theorem ret_bool {a b : Bool} (h : a = b) : Ending.returned (.bool a) = .returned (.bool b) := by rw [h]
theorem ret_int {k : IntKind} {a b : Int} (h : a = b) : Ending.returned (.int k a) = .returned (.int k b) := by rw [h]

set_option maxHeartbeats 400000 in
theorem big_any (n : Int) (w : World) : Calls Try.prog 59 #[.int .u8 n] w fun e w' => e = .returned (.bool (bigB n)) ∧ w' = w := by
  go_enter Try.func59, Try.ntmps59
  go_wp2
  all_goals go_ret
  all_goals refine ⟨ret_bool ?_, rfl⟩
  all_goals (rw [Bool.eq_iff_iff]; simp [bigB]; try omega)

set_option maxHeartbeats 400000 in
theorem small_any (n : Int) (w : World) : Calls Try.prog 56 #[.int .u8 n] w fun e w' => e = .returned (.bool (smallB n)) ∧ w' = w := by
  go_enter Try.func56, Try.ntmps56
  go_wp2
  all_goals go_ret
  all_goals refine ⟨ret_bool ?_, rfl⟩
  all_goals (rw [Bool.eq_iff_iff]; simp [smallB]; try omega)

set_option maxHeartbeats 400000 in
theorem letter_any (n : Int) (w : World) : Calls Try.prog 58 #[.int .u8 n] w fun e w' => e = .returned (.bool (letB n)) ∧ w' = w := by
  go_enter Try.func58, Try.ntmps58
  go_wp2
  all_goals go_ret
  all_goals refine ⟨ret_bool ?_, rfl⟩
  all_goals (rw [Bool.eq_iff_iff]; simp [letB, bigB, smallB]; try omega)

set_option maxHeartbeats 400000 in
theorem lod_any (n : Int) (w : World) : Calls Try.prog 57 #[.int .u8 n] w fun e w' => e = .returned (.bool (lodB n)) ∧ w' = w := by
  go_enter Try.func57, Try.ntmps57
  go_wp2
  all_goals go_ret
  all_goals refine ⟨ret_bool ?_, rfl⟩
  all_goals (rw [Bool.eq_iff_iff]; simp [lodB, digB, letB, bigB, smallB]; try omega)

end Go.Proofs.Ytipbdpjnabeilaa

/-
  The kit's tactics that the walks of package value take, in one place.
-/
namespace Go.Proofs.Ytipbdpjnabeilaa
open Go.RowKit

theorem bel_drewN {B : Nat} {a w : World} (h : Below B a w) (n : Nat) : Below B a (w.drewN n) := ⟨h.os, h.tape, h.output, h.size, h.block⟩

theorem bel_then {B : Nat} {a b c : World} (h : Below B a b) (hB : B ≤ b.heap.size) (k : Below b.heap.size b c) : Below B a c := h.trans (k.mono hB)

theorem Try.mixed : Try.prog.follows .mixedOrders = true := by kernel_rfl

/-- The world has drawn, and new blocks lie behind it; nothing else has turned. -/
def Grown (w w' : World) : Prop := ∃ q os, w' = Sort.grow (w.drewN q) os

theorem Grown.refl (w : World) : Grown w w := ⟨0, #[], by rw [Sort.grow_empty]; rfl⟩
theorem Grown.draws (w : World) (n : Nat) : Grown w (w.drewN n) := ⟨n, #[], by rw [Sort.grow_empty]⟩
theorem Grown.trans {a b c : World} (h : Grown a b) (k : Grown b c) : Grown a c := by
  obtain ⟨q, os, rfl⟩ := h
  obtain ⟨q', os', rfl⟩ := k
  exact ⟨q + q', os ++ os', by show Sort.grow (Sort.grow ((a.drewN q).drewN q') os) os' = _; rw [Sort.grow_grow, World.drewN_drewN]⟩
theorem Grown.alloc {a w : World} (h : Grown a w) (o : Obj) : Grown a (w.alloc o) := h.trans ⟨0, #[o], by rw [Sort.alloc_eq_grow]; rfl⟩
theorem Grown.drewN {a w : World} (h : Grown a w) (n : Nat) : Grown a (w.drewN n) := h.trans (Grown.draws w n)
theorem Grown.on {a w : World} {q : Nat} {os : Array Obj} (h : Grown a w) : Grown a (Sort.grow (w.drewN q) os) := h.trans ⟨q, os, rfl⟩
theorem Grown.below {w w' : World} (h : Grown w w') : Below w.heap.size w w' := by
  obtain ⟨q, os, rfl⟩ := h
  refine ⟨rfl, rfl, rfl, by simp [Sort.grow, World.drewN], fun k hk => ?_⟩
  show (w.heap ++ os)[k]? = w.heap[k]?
  rw [Array.getElem?_append_left hk]

theorem drewN_heap (w : World) (n : Nat) : (w.drewN n).heap = w.heap := rfl

end Go.Proofs.Ytipbdpjnabeilaa

/-
  The contracts of spelled, and of the four words that stand on it.
-/
namespace Go.Proofs.Ytipbdpjnabeilaa
open Go.RowKit

theorem nat_pos {n : Nat} (h : ¬ (n : Int) < 1) : 0 < n := by omega

set_option maxHeartbeats 800000 in
theorem spelled_field (s : ByteArray) (w : World) (hs : s.size ≤ maxLen) :
    Calls Try.prog 55 #[.string s, .func (.func 56) #[] #[], .func (.func 57) #[] #[]] w fun e w' => e = .returned (.bool (fieldB s.data.toList)) ∧ w' = w := by
  unfold maxLen at hs
  by_cases he : s.size = 0
  · have hb := spell_empty smallB lodB s he
    have hlt : (s.size : Int) < 1 := by omega
    have HB : Hid (spell smallB lodB s.data.toList = false) := hb
    clear he hb
    go_enter Try.func55, Try.ntmps55
    go_wp2_with fail
    go_ret
    exact ⟨ret_bool HB.out.symm, rfl⟩
  have hpos : 0 < s.size := by omega
  have hnl : ¬ (s.size : Int) < 1 := by omega
  by_cases hl : 32 < s.size
  · have hb := spell_long smallB lodB s hl
    have HB : Hid (spell smallB lodB s.data.toList = false) := hb
    have hgt : (32 : Int) < (s.size : Int) := by omega
    clear he hb
    go_enter Try.func55, Try.ntmps55
    go_wp2_with fail
    go_ret
    exact ⟨ret_bool HB.out.symm, rfl⟩
  have hle : ¬ (32 : Int) < (s.size : Int) := by omega
  clear he
  cases hc : smallB (s[0].toNat : Int) with
  | false =>
    have HB : Hid (spell smallB lodB s.data.toList = false) := spell_first smallB lodB s hpos hc
    go_enter Try.func55, Try.ntmps55
    go_wp2_with (go_at_call 56; refine (small_any _ _).mono ?_; rintro e w' ⟨rfl, rfl⟩)
    go_ret
    exact ⟨ret_bool HB.out.symm, rfl⟩
  | true =>
    have HT : Hid ((∀ k, 1 ≤ k → (hk : k < s.size) → lodB (s[k].toNat : Int) = true) → spell smallB lodB s.data.toList = true) := spell_true smallB lodB s hpos (by omega) hc
    have HA : Hid (∀ k, 1 ≤ k → (hk : k < s.size) → lodB (s[k].toNat : Int) = false → spell smallB lodB s.data.toList = false) := fun k h1 hk => spell_at smallB lodB s k h1 hk
    go_enter Try.func55, Try.ntmps55
    go_wp2_with (go_at_call 56; refine (small_any _ _).mono ?_; rintro e w' ⟨rfl, rfl⟩)
    go_loop [7] (fun i => ∃ k : Nat, 1 ≤ k ∧ k ≤ s.size ∧ i = .int .i64 k ∧ (∀ j, 1 ≤ j → j < k → (hj : j < s.size) → lodB (s[j].toNat : Int) = true)) (fun i => s.size - (intOf i).toNat)
    case atStart => exact ⟨1, by omega, by omega, rfl, fun j h1 h2 => by omega⟩
    case round =>
      obtain ⟨k, hk1, hk, rfl, hall⟩ := hrel
      have HL : Hid (∀ j, 1 ≤ j → j < k → (hj : j < s.size) → lodB (s[j].toNat : Int) = true) := hall
      clear hall
      by_cases hlt : k < s.size
      · cases hd : lodB (s[k].toNat : Int) with
        | false =>
          go_wp2_with (go_at_call 57; refine (lod_any _ _).mono ?_; rintro e w' ⟨rfl, rfl⟩)
          go_ret
          exact ⟨ret_bool (HA.out k hk1 hlt hd).symm, rfl⟩
        | true =>
          go_wp2_with (go_at_call 57; refine (lod_any _ _).mono ?_; rintro e w' ⟨rfl, rfl⟩)
          go_round
          case rel =>
            refine ⟨k + 1, by omega, by omega, by go_num, fun j h1 h2 hj => ?_⟩
            by_cases hjk : j = k
            · subst hjk; exact hd
            · exact HL.out j h1 (by omega) hj
          case measure => simp [intOf]; omega
      · go_wp2_with fail
        go_ret
        exact ⟨ret_bool (HT.out fun j h1 hj => HL.out j h1 (by omega) hj).symm, rfl⟩

set_option maxHeartbeats 400000 in
theorem field_any (s : ByteArray) (w : World) (hs : s.size ≤ maxLen) :
    Calls Try.prog 53 #[.string s] w fun e w' => e = .returned (.bool (fieldB s.data.toList)) ∧ w' = w := by
  go_enter Try.func53, Try.ntmps53
  go_wp2_with (go_at_call 55; refine (spelled_field _ _ hs).mono ?_; rintro e w' ⟨rfl, rfl⟩)
  go_ret
  exact ⟨rfl, rfl⟩

end Go.Proofs.Ytipbdpjnabeilaa

/-
  The library's functions at this program's own numbers: the tables that tie each to the contract that the library proves once.
-/
namespace Go.Proofs
open Go.Shelf
def Try.laysNm216_ren : Go.Shelf.Ren := ⟨fun | 16 => 46 | n => n, fun | 24 => 59 | 9 => 9 | 4 => 4 | n => n, fun | n => n⟩
theorem Try.laysNm216 : Go.Proofs.Lays2.n16 Try.prog Try.laysNm216_ren := {
  mixed := by kernel_rfl
  f16 := Try.func46.trans (congrArg some (by kernel_rfl))
  t4 := Try.underlying4
  a4 := Try.isAgg4
  z4 := Try.sizeOf4
  v4 := Try.zeroValue4
  t9 := Try.underlying9
  a9 := Try.isAgg9
  z9 := Try.sizeOf9
  v9 := Try.zeroValue9
  t24 := Try.underlying59
  a24 := Try.isAgg59
  z24 := Try.sizeOf59
  v24 := Try.zeroValue59
  i9 := by kernel_rfl }
open Go.RowKit Go.Lib in
theorem Try.slices_Clone_string (b off n c : Nat) (zs : List ByteArray) (w : World) (hz : n ≤ zs.length) (hbig : n * 16 ≤ 140737488355328) (hc : ∀ j, j < zs.length → w.cell? ⟨b, off + j, none⟩ = some (.string (zs.getD j ByteArray.empty))) :
    Calls Try.prog 46 #[.slice (some ⟨b, off, none⟩) n c] w fun e w' => ∃ v', e = .returned v' ∧ w'.ownsRow w.heap.size 9 1 v' n ((zs.take n).map (Value.string)) ∧ v' ≠ .slice none 0 0 ∧ Below w.heap.size w w' := Any.slices_Clone_string Try.laysNm216 b off n c zs w hz hbig hc
open Go.RowKit Go.Lib in
theorem Try.slices_Clone_string_nil (n c : Nat) (w : World) :
    Calls Try.prog 46 #[.slice none n c] w fun e w' => e = .returned (.slice none 0 0) ∧ w' = w := Any.slices_Clone_string_nil Try.laysNm216 n c w
open Go.RowKit Go.Lib in
theorem Try.slices_Clone_string_zero (a : Addr) (c : Nat) (w : World) :
    Calls Try.prog 46 #[.slice (some a) 0 c] w fun e w' => ∃ v', e = .returned v' ∧ w'.ownsRow w.heap.size 9 1 v' 0 [] ∧ v' ≠ .slice none 0 0 ∧ Below w.heap.size w w' := Any.slices_Clone_string_zero Try.laysNm216 a c w
def Try.laysSlH8_f50_ren : Go.Shelf.Ren := ⟨fun | 8 => 50 | 6 => 54 | n => n, fun | 22 => 59 | 23 => 9 | 25 => 74 | 4 => 4 | 3 => 3 | 0 => 0 | n => n, fun | n => n⟩
theorem Try.laysSlH8_f50 : Go.Proofs.SlLaysH.n8 Try.prog Try.laysSlH8_f50_ren := {
  mixed := by kernel_rfl
  f6 := ⟨Try.f54.name, by decide, Try.func54.trans (congrArg some (by kernel_rfl))⟩
  f8 := ⟨Try.f50.name, by decide, Try.func50.trans (congrArg some (by kernel_rfl))⟩
  t0 := Try.underlying0
  a0 := Try.isAgg0
  z0 := Try.sizeOf0
  v0 := Try.zeroValue0
  t3 := Try.underlying3
  a3 := Try.isAgg3
  z3 := Try.sizeOf3
  v3 := Try.zeroValue3
  t4 := Try.underlying4
  a4 := Try.isAgg4
  z4 := Try.sizeOf4
  v4 := Try.zeroValue4
  t22 := Try.underlying59
  a22 := Try.isAgg59
  z22 := Try.sizeOf59
  v22 := Try.zeroValue59
  a23 := Try.isAgg9
  z23 := Try.sizeOf9
  t25 := Try.underlying74
  a25 := Try.isAgg74
  z25 := Try.sizeOf74
  v25 := Try.zeroValue74 }
open Go.RowKit Go.Lib in
theorem Try.slices_ContainsFunc {α : Type} [Inhabited α] (enc : α → Value) (p : α → Bool) (g : Nat) (lb : Array Value) (eg : ∀ args w, (callFunc g args).run Try.prog w = .ok (.enter g args) w) (b off n c : Nat) (zs : List α) (w : World) (hp : PredAt Try.prog g lb enc p w) (hz : n ≤ zs.length) (hbig : n ≤ 9223372036854775807) (hc : ∀ j, j < zs.length → w.cell? ⟨b, off + j, none⟩ = some (enc zs[j]!)) :
    Calls Try.prog 50 #[.slice (some ⟨b, off, none⟩) n c, .func (.func g) #[] lb] w fun e w' => e = .returned (.bool ((zs.take n).any p)) ∧ ∃ q, w' = w.drewN q := AnyE.slices_ContainsFunc Try.laysSlH8_f50 enc p g lb eg b off n c zs w hp hz hbig hc
open Go.RowKit Go.Lib in
theorem Try.slices_ContainsFunc_empty {α : Type} [Inhabited α] (a : Option Addr) (c : Nat) (fv : Value) (w : World) :
    Calls Try.prog 50 #[.slice a 0 c, fv] w fun e w' => e = .returned (.bool false) ∧ w' = w := AnyE.slices_ContainsFunc_empty Try.laysSlH8_f50 a c fv w
def Try.cloneFld_ren : Go.Shelf.Ren := ⟨fun | 41 => 45 | n => n, fun | 22 => 31 | 23 => 61 | 4 => 4 | n => n, fun | n => n⟩
theorem Try.cloneFld : Go.Proofs.SlLaysE0.n41 Try.prog Try.cloneFld_ren := {
  mixed := by kernel_rfl
  f41 := ⟨Try.f45.name, by decide, Try.func45.trans (congrArg some (by kernel_rfl))⟩
  t4 := Try.underlying4
  a4 := Try.isAgg4
  z4 := Try.sizeOf4
  v4 := Try.zeroValue4
  t22 := Try.underlying31
  a22 := Try.isAgg31
  z22 := Try.sizeOf31
  v22 := Try.zeroValue31 }
end Go.Proofs

/-
  Fields: the plain words, how they lie in memory, and the contracts of the functions that look at one field.
-/
namespace Go.Proofs.Ytipbdpjnabeilaa
open Go.RowKit

/-- A field: its name, and its texts. -/
abbrev Fld := ByteArray × List ByteArray

/-- A field as it lies: its name, its texts' address and capacity; and, beside it, what its texts are. -/
structure Fx where
  name : ByteArray
  p : Option Addr
  cap : Nat
  txt : List ByteArray
  deriving Inhabited

def Fx.sl (x : Fx) : Value := .slice x.p x.txt.length x.cap
def Fx.fld (x : Fx) : Fld := (x.name, x.txt)
def encX (x : Fx) : List Value := [.string x.name, x.sl]
def Fx.val (x : Fx) : Value := .agg (encX x).toArray

/-- The texts of x lie where its slice says. -/
def TxtAt (w : World) (p : Option Addr) (ts : List ByteArray) : Prop :=
  ts = [] ∨ ∃ b off, p = some ⟨b, off, none⟩ ∧ ∀ i, (h : i < ts.length) → w.cell? ⟨b, off + i, none⟩ = some (.string ts[i])

def Fx.at (w : World) (x : Fx) : Prop := TxtAt w x.p x.txt

/-- The fields d lie from off on in block b. -/
def XsAt (w : World) (b off : Nat) (d : List Fx) : Prop :=
  ∀ i, (h : i < d.length) → w.cell? ⟨b, off + i * 2, none⟩ = some (.string d[i].name) ∧ w.cell? ⟨b, off + i * 2 + 1, none⟩ = some d[i].sl

/-- v is a slice that holds the fields d. -/
def IsXs (w : World) (v : Value) (d : List Fx) : Prop :=
  ∃ p cap, v = .slice p d.length cap ∧ (d = [] ∨ ∃ b off, p = some ⟨b, off, none⟩ ∧ XsAt w b off d) ∧ ∀ x ∈ d, x.at w

/-- Texts, and fields, that a machine can hold. -/
def FitT (ts : List ByteArray) : Prop := ts.length ≤ maxLen ∧ ∀ t ∈ ts, t.size ≤ maxLen
def FitF (f : Fld) : Prop := f.1.size ≤ maxLen ∧ FitT f.2
def FitX (d : List Fx) : Prop := d.length ≤ maxLen ∧ ∀ x ∈ d, FitF x.fld

theorem cell_block {w : World} {a : Addr} {v : Value} (h : w.cell? a = some v) : a.block < w.heap.size := by
  rcases Nat.lt_or_ge a.block w.heap.size with h' | h'
  · exact h'
  · simp [World.cell?, Array.getElem?_eq_none h'] at h

theorem TxtAt.kept {w w' : World} {p : Option Addr} {ts : List ByteArray} (h : TxtAt w p ts) (hb : Below w.heap.size w w') : TxtAt w' p ts := by
  rcases h with h | ⟨b, off, hp, h⟩
  · exact Or.inl h
  · exact Or.inr ⟨b, off, hp, fun i hi => (hb.cell (p := ⟨b, off + i, none⟩) (cell_block (h i hi))).trans (h i hi)⟩

theorem XsAt.kept {w w' : World} {b off : Nat} {d : List Fx} (h : XsAt w b off d) (hb : Below w.heap.size w w') : XsAt w' b off d :=
  fun i hi => ⟨(hb.cell (p := ⟨b, off + i * 2, none⟩) (cell_block (h i hi).1)).trans (h i hi).1, (hb.cell (p := ⟨b, off + i * 2 + 1, none⟩) (cell_block (h i hi).2)).trans (h i hi).2⟩

theorem IsXs.at_all {w : World} {v : Value} {d : List Fx} (h : IsXs w v d) : ∀ x ∈ d, x.at w := by
  obtain ⟨_, _, _, _, h⟩ := h
  exact h

theorem IsXs.kept {w w' : World} {v : Value} {d : List Fx} (h : IsXs w v d) (hb : Below w.heap.size w w') : IsXs w' v d := by
  obtain ⟨p, cap, rfl, h, ht⟩ := h
  refine ⟨p, cap, rfl, ?_, fun x hx => (ht x hx).kept hb⟩
  rcases h with h | ⟨b, off, hp, h⟩
  · exact Or.inl h
  · exact Or.inr ⟨b, off, hp, h.kept hb⟩

/-- A field that a normal value may have. -/
def longB (t : ByteArray) : Bool := decide (128 < t.size)
def fitsB (f : Fld) : Bool := fieldB f.1.data.toList && !f.2.isEmpty && decide (f.2.length ≤ 8) && !f.2.any longB

set_option maxHeartbeats 1000000 in
theorem misnamed_any (x : Fx) (w : World) (hs : x.name.size ≤ maxLen) : Calls Try.prog 48 #[x.val] w fun e w' => e = .returned (.bool (!fieldB x.name.data.toList)) ∧ Grown w w' := by
  obtain ⟨nm, p, cap, ts⟩ := x
  simp only [Fx.val, encX, Fx.sl] at hs ⊢
  go_enter Try.func48, Try.ntmps48
  go_wp2_with (go_at_call 53; refine (field_any _ _ hs).mono ?_; rintro e w' ⟨rfl, rfl⟩)
  go_ret
  exact ⟨rfl, (Grown.refl _).alloc _⟩

set_option maxHeartbeats 1000000 in
theorem bare_any (x : Fx) (w : World) : Calls Try.prog 49 #[x.val] w fun e w' => e = .returned (.bool x.txt.isEmpty) ∧ Grown w w' := by
  obtain ⟨nm, p, cap, ts⟩ := x
  simp only [Fx.val, encX, Fx.sl]
  have HE : Hid (decide ((ts.length : Int) = 0) = ts.isEmpty) := by
    show _ = _
    cases ts <;> simp
    omega
  go_enter Try.func49, Try.ntmps49
  go_wp2_with fail
  go_ret
  exact ⟨ret_bool HE.out, (Grown.refl _).alloc _⟩

set_option maxHeartbeats 1000000 in
theorem tooLong_any (t : ByteArray) (w : World) : Calls Try.prog 51 #[.string t] w fun e w' => e = .returned (.bool (longB t)) ∧ w' = w := by
  have HE : Hid (decide ((128 : Int) < t.size) = longB t) := by
    show _ = _
    unfold longB
    rw [Bool.eq_iff_iff]; simp; omega
  go_enter Try.func51, Try.ntmps51
  go_wp2_with fail
  go_ret
  exact ⟨ret_bool HE.out, rfl⟩

end Go.Proofs.Ytipbdpjnabeilaa

/-
  Chains (stage 6), without the program: versions whose stamps rise; what is visible at a stamp, since a stamp, and what a prune leaves.
-/
namespace Go.Proofs.Ytipbdpjnabeilaa

structure Vr where
  num : Int
  stamp : Int
  tick : Int
  live : Bool
  val : List (ByteArray × List ByteArray)
  deriving Inhabited, DecidableEq

/-- The version that there is none: what Go's zero value is. -/
def zeroV : Vr := ⟨0, 0, 0, false, []⟩

/-- How many stand at or below t, from the first on. -/
def cutV (l : List Vr) (t : Int) : Nat := (l.takeWhile fun v => decide (v.stamp ≤ t)).length
def atV (l : List Vr) (t : Int) : Option Vr := if cutV l t = 0 then none else l[cutV l t - 1]?
def sinceV (l : List Vr) (t : Int) : List Vr := l.drop (cutV l t)
def pruneN (l : List Vr) (f : Int) : Nat := cutV l f - 1
def pruneV (l : List Vr) (f : Int) : List Vr := l.drop (pruneN l f)

def RiseV (l : List Vr) : Prop := l.Pairwise fun a b => a.stamp < b.stamp

/-- What holds of every chain. -/
structure OkV (l : List Vr) : Prop where
  rise : RiseV l
  nums : ∀ i, (h : i + 1 < l.length) → (l[i + 1]).num = (l[i]'(by omega)).num + 1
  two : ∀ i, (h : i + 1 < l.length) → (l[i + 1]).live = true ∨ (l[i]'(by omega)).live = true
  first : ∀ v ∈ l, 1 ≤ v.num ∧ 0 < v.stamp ∧ (v.num = 1 → v.live = true) ∧ (v.live = false → v.val = [])

theorem rise_lt {l : List Vr} (h : RiseV l) {i j : Nat} (hij : i < j) (hj : j < l.length) : (l[i]'(by omega)).stamp < (l[j]).stamp := List.pairwise_iff_getElem.1 h i j (by omega) hj hij

theorem cutV_le (l : List Vr) (t : Int) : cutV l t ≤ l.length := by
  unfold cutV
  exact (List.takeWhile_prefix _).length_le

theorem cutV_cons (v : Vr) (l : List Vr) (t : Int) : cutV (v :: l) t = if v.stamp ≤ t then cutV l t + 1 else 0 := by
  unfold cutV
  by_cases h : v.stamp ≤ t
  · rw [List.takeWhile_cons_of_pos (by simpa using h), if_pos h]; rfl
  · rw [List.takeWhile_cons_of_neg (by simpa using h), if_neg h]; rfl

/-- Those ahead of the cut stand at or below t. -/
theorem cutV_below : ∀ (l : List Vr) (t : Int) (i : Nat) (h : i < l.length), i < cutV l t → (l[i]).stamp ≤ t
  | [], _, i, h, _ => by simp at h
  | v :: l, t, i, h, hc => by
    rw [cutV_cons] at hc
    by_cases hv : v.stamp ≤ t
    · rw [if_pos hv] at hc
      cases i with
      | zero => exact hv
      | succ i => exact cutV_below l t i (by simpa using h) (by omega)
    · rw [if_neg hv] at hc; omega

/-- Those behind it above. -/
theorem cutV_above : ∀ (l : List Vr), RiseV l → ∀ (t : Int) (i : Nat) (h : i < l.length), cutV l t ≤ i → t < (l[i]).stamp
  | [], _, _, i, h, _ => by simp at h
  | v :: l, hr, t, i, h, hc => by
    obtain ⟨h1, h2⟩ := List.pairwise_cons.1 hr
    rw [cutV_cons] at hc
    by_cases hv : v.stamp ≤ t
    · rw [if_pos hv] at hc
      cases i with
      | zero => omega
      | succ i => exact cutV_above l h2 t i (by simpa using h) (by omega)
    · cases i with
      | zero => exact Int.not_le.1 hv
      | succ i =>
        have := h1 (l[i]'(by simpa using h)) (List.getElem_mem _)
        simp only [List.getElem_cons_succ]
        omega

theorem cutV_uniq {l : List Vr} (hr : RiseV l) {t : Int} {n : Nat} (hn : n ≤ l.length) (h1 : ∀ i, (h : i < l.length) → i < n → (l[i]).stamp ≤ t) (h2 : ∀ i, (h : i < l.length) → n ≤ i → t < (l[i]).stamp) : cutV l t = n := by
  have hc := cutV_le l t
  rcases Nat.lt_trichotomy (cutV l t) n with h | h | h
  · have a := h1 (cutV l t) (by omega) h
    have b := cutV_above l hr t (cutV l t) (by omega) (Nat.le_refl _)
    omega
  · exact h
  · have a := h2 n (by omega) (Nat.le_refl _)
    have b := cutV_below l t n (by omega) h
    omega

theorem rise_drop {l : List Vr} (h : RiseV l) (n : Nat) : RiseV (l.drop n) := h.sublist (List.drop_sublist n l)

theorem cutV_drop {l : List Vr} (hr : RiseV l) {t : Int} {n : Nat} (hn : n ≤ cutV l t) : cutV (l.drop n) t = cutV l t - n := by
  have hc := cutV_le l t
  refine cutV_uniq (rise_drop hr n) (by rw [List.length_drop]; omega) (fun i h hi => ?_) (fun i h hi => ?_)
  · rw [List.length_drop] at h
    rw [List.getElem_drop]
    exact cutV_below l t _ (by omega) (by omega)
  · rw [List.length_drop] at h
    rw [List.getElem_drop]
    exact cutV_above l hr t _ (by omega) (by omega)

theorem cutV_mono {l : List Vr} (hr : RiseV l) {t u : Int} (h : t ≤ u) : cutV l t ≤ cutV l u := by
  have hc := cutV_le l t
  have hd := cutV_le l u
  rcases Nat.lt_or_ge (cutV l u) (cutV l t) with hlt | hge
  · have a := cutV_below l t (cutV l u) (by omega) hlt
    have b := cutV_above l hr u (cutV l u) (by omega) (Nat.le_refl _)
    omega
  · exact hge

/-- Nothing at f or above is seen to change by a prune. -/
theorem prune_at {l : List Vr} (hr : RiseV l) {f t : Int} (h : f ≤ t) : atV (pruneV l f) t = atV l t := by
  have hm := cutV_mono hr h
  unfold atV pruneV pruneN
  rw [cutV_drop hr (by omega)]
  by_cases h0 : cutV l t = 0
  · rw [if_pos h0, if_pos (by omega)]
  · by_cases h1 : cutV l f = 0
    · rw [h1]; simp
    · rw [if_neg h0, if_neg (by omega), List.getElem?_drop]
      congr 1
      omega

theorem prune_since {l : List Vr} (hr : RiseV l) {f t : Int} (h : f ≤ t) : sinceV (pruneV l f) t = sinceV l t := by
  have hm := cutV_mono hr h
  unfold sinceV pruneV pruneN
  rw [cutV_drop hr (by omega), List.drop_drop]
  congr 1
  omega

theorem prune_last (l : List Vr) (f : Int) : (pruneV l f).getLast? = l.getLast? := by
  unfold pruneV pruneN
  have hc := cutV_le l f
  rw [List.getLast?_eq_getElem?, List.getLast?_eq_getElem?, List.getElem?_drop, List.length_drop]
  by_cases h0 : l.length = 0
  · rw [List.length_eq_zero_iff.1 h0]; simp
  · congr 1
    omega

theorem prune_twice {l : List Vr} (hr : RiseV l) (f : Int) : pruneN (pruneV l f) f = 0 := by
  unfold pruneV pruneN
  rw [cutV_drop hr (by omega)]
  omega

theorem prune_len (l : List Vr) (f : Int) : (pruneV l f).length = l.length - pruneN l f := by unfold pruneV; rw [List.length_drop]

/-- What is left begins with what was visible. -/
theorem prune_head {l : List Vr} {f : Int} {v : Vr} (h : atV l f = some v) : (pruneV l f)[0]? = some v := by
  unfold atV at h
  split at h
  · cases h
  · unfold pruneV pruneN
    rw [List.getElem?_drop, Nat.add_zero]
    exact h

theorem ok_nil : OkV [] := ⟨List.Pairwise.nil, fun i h => by simp at h, fun i h => by simp at h, fun v h => by cases h⟩

theorem ok_drop {l : List Vr} (h : OkV l) (n : Nat) : OkV (l.drop n) := by
  refine ⟨rise_drop h.rise n, fun i hi => ?_, fun i hi => ?_, fun v hv => h.first v (List.mem_of_mem_drop hv)⟩
  · rw [List.length_drop] at hi
    rw [List.getElem_drop, List.getElem_drop]
    exact h.nums (n + i) (by omega)
  · rw [List.length_drop] at hi
    rw [List.getElem_drop, List.getElem_drop]
    exact h.two (n + i) (by omega)

theorem ok_prune {l : List Vr} (h : OkV l) (f : Int) : OkV (pruneV l f) := ok_drop h _

theorem ok_num {l : List Vr} (h : OkV l) : ∀ i, (hi : i < l.length) → (l[i]).num = (l[0]'(by omega)).num + i
  | 0, _ => by simp
  | i + 1, hi => by
    rw [h.nums i hi, ok_num h i (by omega)]
    omega

theorem ok_cut {l : List Vr} (h : OkV l) (i : Nat) (hi : i < l.length) : cutV l (l[i]).stamp = i + 1 := by
  refine cutV_uniq h.rise (by omega) (fun j hj hji => ?_) (fun j hj hij => rise_lt h.rise (by omega) hj)
  rcases Nat.lt_or_ge j i with hlt | hge
  · have := rise_lt h.rise hlt hi
    omega
  · obtain rfl : j = i := by omega
    exact Int.le_refl _

/-- Each is found by its stamp. -/
theorem ok_at {l : List Vr} (h : OkV l) (i : Nat) (hi : i < l.length) : atV l (l[i]).stamp = some l[i] := by
  unfold atV
  rw [ok_cut h i hi, if_neg (by omega), Nat.add_sub_cancel, List.getElem?_eq_getElem hi]

/-- The one with the number n. -/
def numV (l : List Vr) (n : Int) : Option Vr := l.find? fun v => decide (v.num = n)
theorem ok_find {l : List Vr} (h : OkV l) (i : Nat) (hi : i < l.length) : numV l (l[i]).num = some l[i] := by
  unfold numV
  rw [List.find?_eq_some_iff_getElem]
  refine ⟨by simp, i, hi, rfl, fun j hj => ?_⟩
  have a := ok_num h i hi
  have b := ok_num h j (by omega)
  simp only [Bool.not_eq_true', decide_eq_false_iff_not]
  omega

theorem since_zero {l : List Vr} (h : OkV l) : sinceV l 0 = l := by
  unfold sinceV
  have : cutV l 0 = 0 := cutV_uniq h.rise (Nat.zero_le _) (fun i _ hi => by omega) (fun i hi _ => (h.first _ (List.getElem_mem hi)).2.1)
  rw [this, List.drop_zero]

/-- Put: the code (ErrOld, ErrField, ErrNone as old, field, none), and what is there behind it. -/
def lastV (l : List Vr) : Vr := l.getLast?.getD zeroV
def putCode (old field none : Int) (may : Bool) (l : List Vr) (stamp : Int) (live : Bool) : Int :=
  if stamp = 0 ∨ stamp ≤ (lastV l).stamp then old else if live = true ∧ may = false then field else if live = false ∧ (lastV l).live = false then none else 0
def putV (l : List Vr) (stamp tick : Int) (live : Bool) (val : List (ByteArray × List ByteArray)) : List Vr := l ++ [⟨(lastV l).num + 1, stamp, tick, live, if live then val else []⟩]

theorem lastV_snoc (l : List Vr) (v : Vr) : lastV (l ++ [v]) = v := by simp [lastV]

theorem lastV_get {l : List Vr} (h : 0 < l.length) : lastV l = l[l.length - 1] := by
  unfold lastV
  rw [List.getLast?_eq_getElem?, List.getElem?_eq_getElem (by omega)]
  rfl

theorem ok_put {l : List Vr} (h : OkV l) {old field none : Int} {may : Bool} {stamp tick : Int} {live : Bool} {val : List (ByteArray × List ByteArray)} (h0 : 0 ≤ stamp) (e1 : old ≠ 0) (e2 : field ≠ 0) (e3 : none ≠ 0) (hc : putCode old field none may l stamp live = 0) : OkV (putV l stamp tick live val) := by
  unfold putCode at hc
  split at hc
  · exact absurd hc e1
  · next hs =>
    split at hc
    · exact absurd hc e2
    · split at hc
      · exact absurd hc e3
      · next hl =>
        have hl' : live = true ∨ (lastV l).live = true := by
          cases live
          · right
            cases hx : (lastV l).live
            · exact absurd ⟨rfl, hx⟩ hl
            · rfl
          · exact Or.inl rfl
        have hs' : ¬ stamp = 0 ∧ (lastV l).stamp < stamp := ⟨fun e => hs (Or.inl e), Int.not_le.1 fun e => hs (Or.inr e)⟩
        refine ⟨?_, fun i hi => ?_, fun i hi => ?_, fun v hv => ?_⟩
        · refine List.pairwise_append.2 ⟨h.rise, List.pairwise_singleton _ _, fun a ha b hb => ?_⟩
          rw [List.mem_singleton] at hb
          subst hb
          obtain ⟨i, hi, rfl⟩ := List.mem_iff_getElem.1 ha
          have hg := lastV_get (l := l) (by omega)
          show (l[i]).stamp < stamp
          rcases Nat.lt_or_ge i (l.length - 1) with hlt | hge
          · have := rise_lt h.rise hlt (by omega)
            rw [hg] at hs'
            omega
          · have e : i = l.length - 1 := by omega
            subst e
            rw [hg] at hs'
            exact hs'.2
        · unfold putV at hi ⊢
          rw [List.length_append, List.length_singleton] at hi
          rcases Nat.lt_or_ge (i + 1) l.length with hlt | hge
          · rw [List.getElem_append_left hlt, List.getElem_append_left (by omega)]
            exact h.nums i hlt
          · have e : i = l.length - 1 := by omega
            subst e
            rw [List.getElem_append_right (by omega), List.getElem_append_left (by omega)]
            simp only [List.getElem_singleton]
            rw [lastV_get (by omega)]
        · unfold putV at hi ⊢
          rw [List.length_append, List.length_singleton] at hi
          rcases Nat.lt_or_ge (i + 1) l.length with hlt | hge
          · rw [List.getElem_append_left hlt, List.getElem_append_left (by omega)]
            exact h.two i hlt
          · have e : i = l.length - 1 := by omega
            subst e
            rw [List.getElem_append_right (by omega), List.getElem_append_left (by omega)]
            simp only [List.getElem_singleton]
            rw [lastV_get (by omega)] at hl'
            exact hl'
        · unfold putV at hv
          rw [List.mem_append, List.mem_singleton] at hv
          rcases hv with hv | rfl
          · exact h.first v hv
          · have hn : 0 ≤ (lastV l).num ∧ ((lastV l).live = true → 1 ≤ (lastV l).num) := by
              rcases Nat.eq_zero_or_pos l.length with e | e
              · obtain rfl := List.length_eq_zero_iff.1 e
                exact ⟨Int.le_refl _, fun h => by cases h⟩
              · rw [lastV_get e]
                have := (h.first _ (List.getElem_mem (show l.length - 1 < l.length by omega))).1
                exact ⟨by omega, fun _ => this⟩
            refine ⟨by show 1 ≤ (lastV l).num + 1; omega, by show 0 < stamp; omega, fun e => ?_, fun e => ?_⟩
            · show live = true
              rcases hl' with hl' | hl'
              · exact hl'
              · have := hn.2 hl'
                have e' : (lastV l).num + 1 = 1 := e
                omega
            · have e' : live = false := e
              show (if live = true then val else []) = []
              rw [e']; rfl

end Go.Proofs.Ytipbdpjnabeilaa

/-
  The contract of fits.
-/
namespace Go.Proofs.Ytipbdpjnabeilaa
open Go.RowKit

theorem enters_tooLong : ∀ args w, (callFunc 51 args).run Try.prog w = .ok (.enter 51 args) w := enters_of Try.func51 (by kernel_rfl) rfl

theorem hasLong_any (p : Option Addr) (cap : Nat) (ts : List ByteArray) (w : World) (h : TxtAt w p ts) (hs : ts.length ≤ maxLen) :
    Calls Try.prog 50 #[.slice p ts.length cap, .func (.func 51) #[] #[]] w fun e w' => e = .returned (.bool (ts.any longB)) ∧ ∃ q, w' = w.drewN q := by
  unfold maxLen at hs
  rcases h with rfl | ⟨b, off, rfl, hc⟩
  · refine (Try.slices_ContainsFunc_empty (α := ByteArray) p cap _ w).mono ?_
    rintro e w' ⟨rfl, rfl⟩
    exact ⟨rfl, 0, rfl⟩
  · refine (Try.slices_ContainsFunc (fun t : ByteArray => Value.string t) longB 51 #[] enters_tooLong b off ts.length cap ts w (fun W x hb => (tooLong_any x W).mono ?_) (Nat.le_refl _) (by omega) ?_).mono ?_
    · rintro e w' ⟨rfl, rfl⟩
      exact ⟨rfl, 0, rfl⟩
    · intro j hj
      rw [getElem!_pos ts j hj]
      exact hc j hj
    · rintro e w' ⟨rfl, hq⟩
      rw [List.take_length]
      exact ⟨rfl, hq⟩

set_option maxHeartbeats 1000000 in
theorem fits_any (x : Fx) (w : World) (hx : x.at w) (hf : FitF x.fld) : Calls Try.prog 44 #[x.val] w fun e w' => e = .returned (.bool (fitsB x.fld)) ∧ Grown w w' := by
  obtain ⟨hs, hl, _⟩ := hf
  have HM := hid (misnamed_any x)
  have HBA := hid (bare_any x)
  obtain ⟨nm, p, cap, ts⟩ := x
  simp only [Fx.val, encX, Fx.sl, Fx.fld, Fx.at] at hs hl hx HM HBA ⊢
  have hb1 : Grown w (w.alloc (.cells #[.string nm, .slice p ts.length cap] 61)) := (Grown.refl _).alloc _
  have HX := hid (hx.kept hb1.below)
  have HS := hid hs
  have HL := hid hl
  clear hx hs hl
  obtain ⟨r, hr⟩ : ∃ r, fitsB (nm, ts) = r := ⟨_, rfl⟩
  rw [hr]
  have HR := hid hr
  clear hr
  have A0 : ∀ w1, Below (w.alloc (.cells #[.string nm, .slice p ts.length cap] 61)).heap.size (w.alloc (.cells #[.string nm, .slice p ts.length cap] 61)) w1 → w1.cell? ⟨w.heap.size, 0, none⟩ = some (.string nm) ∧ w1.cell? ⟨w.heap.size, 1, none⟩ = some (.slice p ts.length cap) := fun w1 hb => by
    refine ⟨(hb.cell (p := ⟨w.heap.size, 0, none⟩) (by simp)).trans (by simp [go_sem]), (hb.cell (p := ⟨w.heap.size, 1, none⟩) (by simp)).trans (by simp [go_sem])⟩
  have A1 := hid A0
  clear A0
  cases h1 : fieldB nm.data.toList with
  | false =>
    have H0 : Hid (r = false) := by show r = false; rw [← HR.out]; simp [fitsB, h1]
    go_enter Try.func44, Try.ntmps44
    go_wp2_with (first | (go_at_call 48; refine (HM.out _ HS.out).mono ?_; rintro e w1 ⟨rfl, hb2⟩; simp only [h1]))
    go_ret
    exact ⟨ret_bool H0.out.symm, hb1.trans hb2⟩
  | true =>
    cases h2 : ts.isEmpty with
    | true =>
      have H0 : Hid (r = false) := by show r = false; rw [← HR.out]; simp [fitsB, h2]
      go_enter Try.func44, Try.ntmps44
      go_wp2_with (first | (go_at_call 48; refine (HM.out _ HS.out).mono ?_; rintro e w1 ⟨rfl, hb2⟩; obtain ⟨a0, a1⟩ := A1.out _ hb2.below; simp only [h1]) | (go_at_call 49; refine (HBA.out _).mono ?_; rintro e w2 ⟨rfl, hb3⟩; simp only [h2]))
      go_ret
      exact ⟨ret_bool H0.out.symm, (hb1.trans hb2).trans hb3⟩
    | false =>
      by_cases h8 : ts.length ≤ 8
      · have h8z : ¬ (8 : Int) < (ts.length : Int) := by omega
        have H0 : Hid (r = !ts.any longB) := by show r = _; rw [← HR.out]; unfold fitsB; rw [h1, h2, decide_eq_true h8]; rfl
        go_enter Try.func44, Try.ntmps44
        go_wp2_with (first | (go_at_call 48; refine (HM.out _ HS.out).mono ?_; rintro e w1 ⟨rfl, hb2⟩; obtain ⟨a0, a1⟩ := A1.out _ hb2.below; simp only [h1]) | (go_at_call 49; refine (HBA.out _).mono ?_; rintro e w2 ⟨rfl, hb3⟩; obtain ⟨b0, b1⟩ := A1.out _ (hb2.trans hb3).below; simp only [h2]) | (go_at_call 50; refine (hasLong_any _ _ _ _ (HX.out.kept (hb2.trans hb3).below) HL.out).mono ?_; rintro e w3 ⟨rfl, q, rfl⟩))
        go_ret
        exact ⟨ret_bool H0.out.symm, ((hb1.trans hb2).trans hb3).drewN _⟩
      · have h8z : (8 : Int) < (ts.length : Int) := by omega
        have H0 : Hid (r = false) := by show r = _; rw [← HR.out]; unfold fitsB; rw [decide_eq_false h8]; simp
        go_enter Try.func44, Try.ntmps44
        go_wp2_with (first | (go_at_call 48; refine (HM.out _ HS.out).mono ?_; rintro e w1 ⟨rfl, hb2⟩; obtain ⟨a0, a1⟩ := A1.out _ hb2.below; simp only [h1]) | (go_at_call 49; refine (HBA.out _).mono ?_; rintro e w2 ⟨rfl, hb3⟩; obtain ⟨b0, b1⟩ := A1.out _ (hb2.trans hb3).below; simp only [h2]))
        go_ret
        exact ⟨ret_bool H0.out.symm, (hb1.trans hb2).trans hb3⟩

end Go.Proofs.Ytipbdpjnabeilaa

/-
  The contract of May.
-/
namespace Go.Proofs.Ytipbdpjnabeilaa
open Go.RowKit

def ltN (a b : ByteArray) : Bool := Op.bytesLess a.toList b.toList
def stepOk (fs : List Fld) (i : Nat) : Bool := fitsB (fs.getD i default) && (decide (i = 0) || ltN (fs.getD (i - 1) default).1 (fs.getD i default).1)
def mayB (fs : List Fld) : Bool := decide (fs.length ≤ 16) && (List.range fs.length).all (stepOk fs)

theorem flds_at {d : List Fx} {i : Nat} (h : i < d.length) : (d.map Fx.fld).getD i default = d[i].fld := by
  rw [List.getD_eq_getElem?_getD, List.getElem?_map, List.getElem?_eq_getElem h]; rfl

theorem may_long {fs : List Fld} (h : 16 < fs.length) : mayB fs = false := by
  unfold mayB; rw [decide_eq_false (by omega)]; rfl
theorem may_no {fs : List Fld} {i : Nat} (h : i < fs.length) (hs : stepOk fs i = false) : mayB fs = false := by
  unfold mayB
  have : (List.range fs.length).all (stepOk fs) = false := by
    rw [Bool.eq_false_iff]
    intro ha
    rw [List.all_eq_true] at ha
    have := ha i (List.mem_range.2 h)
    rw [hs] at this; cases this
  rw [this]; simp
theorem may_yes {fs : List Fld} (h : fs.length ≤ 16) (hs : ∀ i, i < fs.length → stepOk fs i = true) : mayB fs = true := by
  unfold mayB
  have : (List.range fs.length).all (stepOk fs) = true := by
    rw [List.all_eq_true]
    exact fun i hi => hs i (List.mem_range.1 hi)
  rw [this, decide_eq_true h]; rfl

theorem x_new (w : World) (x : Fx) (w' : World) (hb : Below (w.alloc (.cells #[.string x.name, .slice x.p x.txt.length x.cap] 61)).heap.size (w.alloc (.cells #[.string x.name, .slice x.p x.txt.length x.cap] 61)) w') :
    w'.cell? ⟨w.heap.size, 0, none⟩ = some (.string x.name) ∧ w'.cell? ⟨w.heap.size, 1, none⟩ = some (.slice x.p x.txt.length x.cap) :=
  ⟨(hb.cell (p := ⟨w.heap.size, 0, none⟩) (by simp)).trans (by simp [go_sem]), (hb.cell (p := ⟨w.heap.size, 1, none⟩) (by simp)).trans (by simp [go_sem])⟩

set_option maxHeartbeats 4000000 in
set_option maxRecDepth 100000 in
theorem may_any (v : Value) (d : List Fx) (w : World) (hv : IsXs w v d) (hf : FitX d) : Calls Try.prog 38 #[v] w fun e w' => e = .returned (.bool (mayB (d.map Fx.fld))) ∧ Grown w w' := by
  obtain ⟨p, cap, rfl, hd, ht⟩ := hv
  have HT := hid ht
  have HF := hid hf.2
  have hl := hf.1
  unfold maxLen at hl
  have HD := hid hd
  clear ht hf hd
  obtain ⟨r, hr⟩ : ∃ r, mayB (d.map Fx.fld) = r := ⟨_, rfl⟩
  rw [hr]
  have HR := hid hr
  clear hr
  by_cases h16 : 16 < d.length
  · have h16z : (16 : Int) < d.length := by omega
    have H0 : Hid (r = false) := HR.out.symm.trans (may_long (by rw [List.length_map]; exact h16))
    go_enter Try.func38, Try.ntmps38
    go_wp2_with fail
    go_ret
    exact ⟨ret_bool H0.out.symm, Grown.refl _⟩
  have h16z : ¬ (16 : Int) < d.length := by omega
  go_enter Try.func38, Try.ntmps38
  go_wp2_with fail
  go_loopg [10] d.length (fun g vi wr => ∃ i : Nat, vi = .int .i64 i ∧ i ≤ d.length ∧ d.length - i ≤ g ∧ Grown w wr ∧ Hid (∀ j, j < i → stepOk (d.map Fx.fld) j = true))
  case atStart => exact ⟨0, rfl, by omega, by omega, Grown.refl _, fun j h => by omega⟩
  case round =>
    obtain ⟨i, rfl, hi, hg, hb, HJ⟩ := hrel
    by_cases hlt : i < d.length
    · have hltz : (i : Int) < (d.length : Int) := by omega
      have hiz : (0 : Int) ≤ i := by omega
      obtain ⟨b, off, rfl, hxs⟩ : ∃ b off, p = some ⟨b, off, none⟩ ∧ XsAt w b off d := by
        rcases HD.out with h | h
        · subst h; simp at hlt
        · exact h
      have hxr := hxs.kept hb.below
      obtain ⟨c0, c1⟩ := hxr i hlt
      have hxi : (d[i]).at wr := (HT.out _ (List.getElem_mem hlt)).kept hb.below
      have hfi := HF.out _ (List.getElem_mem hlt)
      have hsx := flds_at hlt
      obtain ⟨x, hx⟩ : ∃ x, d[i] = x := ⟨_, rfl⟩
      rw [hx] at c0 c1 hxi hfi hsx
      have HXR := hid hxr
      have HXI := hid hxi
      have HFI := hid hfi
      have HSX := hid hsx
      clear hxr hxs hxi hfi hx hsx
      unfold Fx.sl at c1
      have FFX : Hid (∀ W, x.at W → Calls Try.prog 44 #[.agg #[.string x.name, .slice x.p x.txt.length x.cap]] W fun e w' => e = .returned (.bool (fitsB x.fld)) ∧ ∃ q os', w' = Sort.grow (W.drewN q) os') := fun W h => fits_any x W h HFI.out
      have mixed := Try.mixed
      by_cases h0 : i = 0
      · have h0z : ¬ (0 : Int) < (i : Int) := by omega
        have H00 := hid h0
        clear h0
        go_wp2_with fail
        obtain ⟨W1, hW1⟩ : ∃ W1, wr.alloc (.cells #[.string x.name, .slice x.p x.txt.length x.cap] 61) = W1 := ⟨_, rfl⟩
        have full : ∀ n os, (Sort.grow (W1.drewN n) os).cell? ⟨wr.heap.size, 0, none⟩ = some (.string x.name) ∧ (Sort.grow (W1.drewN n) os).cell? ⟨wr.heap.size, 1, none⟩ = some (.slice x.p x.txt.length x.cap) ∧ x.at (Sort.grow (W1.drewN n) os) := fun n os => by
          subst hW1
          have hgr := (Grown.refl (wr.alloc (.cells #[.string x.name, .slice x.p x.txt.length x.cap] 61))).on (q := n) (os := os)
          obtain ⟨f0, f1⟩ := x_new wr x _ hgr.below
          have hbw := (((Grown.refl wr).alloc (.cells #[.string x.name, .slice x.p x.txt.length x.cap] 61)).trans hgr).below
          exact ⟨f0, f1, HXI.out.kept hbw⟩
        have q0 : ∀ n os, (Sort.grow (W1.drewN n) os).cell? ⟨wr.heap.size, 0, none⟩ = some (.string x.name) := fun n os => (full n os).1
        have q1 : ∀ n os, (Sort.grow (W1.drewN n) os).cell? ⟨wr.heap.size, 1, none⟩ = some (.slice x.p x.txt.length x.cap) := fun n os => (full n os).2.1
        have Q3 : Hid (∀ n os, x.at (Sort.grow (W1.drewN n) os)) := fun n os => (full n os).2.2
        have hbW : Grown w W1 := by subst hW1; exact hb.alloc _
        rw [hW1]
        clear full hW1 c0 c1
        cases hfx : fitsB x.fld with
        | false =>
          rw [hfx] at FFX
          have H0 : Hid (r = false) := HR.out.symm.trans (may_no (i := i) (by rw [List.length_map]; exact hlt) (by unfold stepOk; rw [HSX.out, hfx]; rfl))
          refine wp_region_quiet_grown mixed (by kernel_rfl) ?_
          repeat (go_big_quiet_step (first | (go_at_call 44; refine Calls.grown_of (FFX.out _ (Q3.out _ _)))))
          refine wpQuiet_nil ?_
          intro _ hw'
          obtain ⟨⟨nq, osq⟩, hw''⟩ := hw'
          subst hw''
          go_wp2_with fail
          go_ret
          exact ⟨ret_bool H0.out.symm, hbW.on⟩
        | true =>
          rw [hfx] at FFX
          have cb : decide (0 < i) = false := decide_eq_false (by have := H00.out; omega)
          have H0 : Hid (stepOk (d.map Fx.fld) i = true) := by show _ = _; unfold stepOk; rw [HSX.out, hfx, decide_eq_true H00.out]; rfl
          refine wp_region_quiet_grown mixed (by kernel_rfl) ?_
          repeat (go_big_quiet_step (first | (go_at_call 44; refine Calls.grown_of (FFX.out _ (Q3.out _ _)))))
          refine wpQuiet_nil ?_
          intro _ hw'
          obtain ⟨⟨nq, osq⟩, hw''⟩ := hw'
          subst hw''
          go_wp2_with fail
          go_roundg (d.length - (i + 1))
          case measure => omega
          refine ⟨i + 1, by go_num, by omega, by omega, hbW.on, fun j hj => ?_⟩
          obtain rfl : j = i := by have := H00.out; omega
          exact H0.out
      · obtain ⟨k, rfl⟩ : ∃ k, i = k + 1 := ⟨i - 1, by omega⟩
        obtain ⟨e0, e1⟩ := HXR.out k (by omega)
        have hsy := flds_at (d := d) (i := k) (by omega)
        obtain ⟨y, hy⟩ : ∃ y, d[k] = y := ⟨_, rfl⟩
        rw [hy] at e0 hsy
        have HSY := hid hsy
        clear e1 hy hsy
        have k1 : (0 : Int) < (k : Int) + 1 := by omega
        have k2 : (0 : Int) ≤ (k : Int) := by omega
        have k3 : (k : Int) < (d.length : Int) := by omega
        go_wp2_with fail
        obtain ⟨W1, hW1⟩ : ∃ W1, wr.alloc (.cells #[.string x.name, .slice x.p x.txt.length x.cap] 61) = W1 := ⟨_, rfl⟩
        have full : ∀ n os, (Sort.grow (W1.drewN n) os).cell? ⟨wr.heap.size, 0, none⟩ = some (.string x.name) ∧ (Sort.grow (W1.drewN n) os).cell? ⟨wr.heap.size, 1, none⟩ = some (.slice x.p x.txt.length x.cap) ∧ (Sort.grow (W1.drewN n) os).cell? ⟨b, off + k * 2, none⟩ = some (.string y.name) ∧ x.at (Sort.grow (W1.drewN n) os) := fun n os => by
          subst hW1
          have hgr := (Grown.refl (wr.alloc (.cells #[.string x.name, .slice x.p x.txt.length x.cap] 61))).on (q := n) (os := os)
          obtain ⟨f0, f1⟩ := x_new wr x _ hgr.below
          have hbw := (((Grown.refl wr).alloc (.cells #[.string x.name, .slice x.p x.txt.length x.cap] 61)).trans hgr).below
          exact ⟨f0, f1, (hbw.cell (p := ⟨b, off + k * 2, none⟩) (cell_block e0)).trans e0, HXI.out.kept hbw⟩
        have q0 : ∀ n os, (Sort.grow (W1.drewN n) os).cell? ⟨wr.heap.size, 0, none⟩ = some (.string x.name) := fun n os => (full n os).1
        have q1 : ∀ n os, (Sort.grow (W1.drewN n) os).cell? ⟨wr.heap.size, 1, none⟩ = some (.slice x.p x.txt.length x.cap) := fun n os => (full n os).2.1
        have q2 : ∀ n os, (Sort.grow (W1.drewN n) os).cell? ⟨b, off + k * 2, none⟩ = some (.string y.name) := fun n os => (full n os).2.2.1
        have Q3 : Hid (∀ n os, x.at (Sort.grow (W1.drewN n) os)) := fun n os => (full n os).2.2.2
        have hbW : Grown w W1 := by subst hW1; exact hb.alloc _
        rw [hW1]
        clear full hW1 c0 c1 e0
        cases hfx : fitsB x.fld with
        | false =>
          rw [hfx] at FFX
          have H0 : Hid (r = false) := HR.out.symm.trans (may_no (i := k + 1) (by rw [List.length_map]; exact hlt) (by unfold stepOk; rw [HSX.out, hfx]; rfl))
          refine wp_region_quiet_grown mixed (by kernel_rfl) ?_
          repeat (go_big_quiet_step (first | (go_at_call 44; refine Calls.grown_of (FFX.out _ (Q3.out _ _)))))
          refine wpQuiet_nil ?_
          intro _ hw'
          obtain ⟨⟨nq, osq⟩, hw''⟩ := hw'
          subst hw''
          go_wp2_with fail
          go_ret
          exact ⟨ret_bool H0.out.symm, hbW.on⟩
        | true =>
          rw [hfx] at FFX
          have H0 : Hid (stepOk (d.map Fx.fld) (k + 1) = ltN y.name x.name) := by
            show _ = _
            unfold stepOk
            rw [HSX.out, hfx, Nat.add_sub_cancel, HSY.out, decide_eq_false (by omega)]
            rfl
          cases hlt2 : Op.bytesLess y.name.toList x.name.toList with
          | false =>
            have H1 : Hid (r = false) := HR.out.symm.trans (may_no (i := k + 1) (by rw [List.length_map]; exact hlt) (H0.out.trans hlt2))
            refine wp_region_quiet_grown mixed (by kernel_rfl) ?_
            repeat (go_big_quiet_step (first | (go_at_call 44; refine Calls.grown_of (FFX.out _ (Q3.out _ _)))))
            refine wpQuiet_nil ?_
            intro _ hw'
            obtain ⟨⟨nq, osq⟩, hw''⟩ := hw'
            subst hw''
            go_wp2_with fail
            go_ret
            exact ⟨ret_bool H1.out.symm, hbW.on⟩
          | true =>
            have H1 : Hid (stepOk (d.map Fx.fld) (k + 1) = true) := H0.out.trans hlt2
            refine wp_region_quiet_grown mixed (by kernel_rfl) ?_
            repeat (go_big_quiet_step (first | (go_at_call 44; refine Calls.grown_of (FFX.out _ (Q3.out _ _)))))
            refine wpQuiet_nil ?_
            intro _ hw'
            obtain ⟨⟨nq, osq⟩, hw''⟩ := hw'
            subst hw''
            go_wp2_with fail
            go_roundg (d.length - (k + 1 + 1))
            case measure => omega
            refine ⟨k + 1 + 1, by go_num, by omega, by omega, hbW.on, fun j hj => ?_⟩
            by_cases e : j = k + 1
            · subst e; exact H1.out
            · exact HJ.out j (by omega)
    · have hltz : ¬ (i : Int) < (d.length : Int) := by omega
      have H0 : Hid (r = true) := HR.out.symm.trans (may_yes (by rw [List.length_map]; omega) (fun j hj => HJ.out j (by rw [List.length_map] at hj; omega)))
      go_wp2_with fail
      go_ret
      exact ⟨ret_bool H0.out.symm, hb⟩

end Go.Proofs.Ytipbdpjnabeilaa

/-
  The contracts of a strings.Builder's copyCheck and WriteByte at this program's own bodies.
-/
namespace Go.Proofs.Ytipbdpjnabeilaa
open Go.RowKit Go.Shelf

theorem Try.infoByte : (Try.prog.info? 5).map (fun i => (i.zero, i.size, i.bytes)) = some (some (.int .u8 0), 1, 1) := by kernel_rfl
theorem own_on {w w' : World} {base : Nat} {e : TypeId} {size : Nat} {v : Value} {n : Nat} {xs : List Value} (h : w.ownsRow base e size v n xs) (hb : Below w.heap.size w w') : w'.ownsRow base e size v n xs :=
  h.kept (row := none) ⟨hb.os, hb.tape, hb.output, hb.size, fun k hk _ => hb.block k hk⟩ (Classical.em _)

theorem bldAt_on {T e : TypeId} {B b : Nat} {p : Value} {bs : List Value} {w w' : World} (h : Lib.BuilderAt T e B b p bs w) (hb : Below w.heap.size w w') : Lib.BuilderAt T e B b p bs w' := by
  have hlt := h.lt
  obtain ⟨hB, v, hv, hown, hne⟩ := h
  exact ⟨hB, v, (hb.block b hlt).trans hv, own_on hown hb, hne⟩

theorem bld_on {T e : TypeId} {B b : Nat} {bs : List Value} {w w' : World} (h : Lib.IsBuilder T e B b bs w) (hb : Below w.heap.size w w') : Lib.IsBuilder T e B b bs w' :=
  h.elim (fun x => .inl (bldAt_on x hb)) (fun x => .inr (bldAt_on x hb))

end Go.Proofs.Ytipbdpjnabeilaa

/-
  The reader of bytes: its state, and the contracts of take, count and text.
-/
namespace Go.Proofs.Ytipbdpjnabeilaa
open Go.RowKit

/-- A reader's state: what is left, and whether it came short. -/
abbrev Rst := List UInt8 × Bool
def takeS (n : Nat) (s : Rst) : List UInt8 × Rst := if s.1.length < n then ([], (s.1, true)) else (s.1.take n, (s.1.drop n, s.2))
def countS (s : Rst) : Nat × Rst := match takeS 1 s with
  | (c :: _, s') => (c.toNat, s')
  | ([], s') => (0, s')
def textS (s : Rst) : ByteArray × Rst := (⟨(takeS (countS s).1 (countS s).2).1.toArray⟩, (takeS (countS s).1 (countS s).2).2)
def textsS : Nat → Rst → List ByteArray × Rst
  | 0, s => ([], s)
  | n + 1, s => ((textS s).1 :: (textsS n (textS s).2).1, (textsS n (textS s).2).2)
def fieldS (s : Rst) : Fld × Rst := (((textS s).1, (textsS (countS (textS s).2).1 (countS (textS s).2).2).1), (textsS (countS (textS s).2).1 (countS (textS s).2).2).2)
def fieldsS : Nat → Rst → List Fld × Rst
  | 0, s => ([], s)
  | n + 1, s => ((fieldS s).1 :: (fieldsS n (fieldS s).2).1, (fieldsS n (fieldS s).2).2)
def valueS (s : Rst) : List Fld × Rst := fieldsS (countS s).1 (countS s).2

/-- v is a slice of the bytes l, in a block below R. -/
def RestAt (R : Nat) (w : World) (v : Value) (l : List UInt8) : Prop :=
  ∃ p cap, v = .slice p l.length cap ∧ l.length ≤ cap ∧ cap ≤ maxLen ∧ (l = [] ∨ ∃ b off, p = some ⟨b, off, none⟩ ∧ b < R ∧ ∀ i, (h : i < l.length) → w.cell? ⟨b, off + i, none⟩ = some (.int .u8 l[i].toNat))

theorem RestAt.kept {R : Nat} {w w' : World} {v : Value} {l : List UInt8} (h : RestAt R w v l) (hg : w.grownBy w' (some R)) : RestAt R w' v l := by
  obtain ⟨p, cap, rfl, h1, h2, h⟩ := h
  refine ⟨p, cap, rfl, h1, h2, ?_⟩
  rcases h with h | ⟨b, off, hp, hb, h⟩
  · exact Or.inl h
  · exact Or.inr ⟨b, off, hp, hb, fun i hi => (hg.cell_far ⟨b, off + i, none⟩ (cell_block (h i hi)) (by simp; omega)).trans (h i hi)⟩

theorem addr_add (b off i : Nat) : (⟨b, off, none⟩ : Addr).add i = ⟨b, off + i, none⟩ := by
  unfold Addr.add
  split
  · rename_i h; simp_all
  · rfl

theorem restAt_take {R : Nat} {w : World} {p : Option Addr} {cap : Nat} {l : List UInt8} (h : RestAt R w (.slice p l.length cap) l) (n : Nat) (hn : n ≤ l.length) :
    RestAt R w (.slice p n cap) (l.take n) := by
  obtain ⟨p', cap', e, h1, h2, h⟩ := h
  cases e
  refine ⟨p, cap, by rw [List.length_take, Nat.min_eq_left hn], by rw [List.length_take]; omega, h2, ?_⟩
  rcases h with h | ⟨b, off, hp, hb, h⟩
  · left; rw [h]; simp
  · by_cases h0 : n = 0
    · left; rw [h0]; simp
    · right
      refine ⟨b, off, hp, hb, fun i hi => ?_⟩
      · rw [List.length_take] at hi
        rw [h i (by omega), List.getElem_take]

theorem restAt_drop {R : Nat} {w : World} {p : Option Addr} {cap : Nat} {l : List UInt8} (h : RestAt R w (.slice p l.length cap) l) (n : Nat) (hn : n ≤ l.length) (q : Option Addr) (hq : q = if cap = n then p else p.map (·.add n)) :
    RestAt R w (.slice q (l.length - n) (cap - n)) (l.drop n) := by
  obtain ⟨p', cap', e, h1, h2, h⟩ := h
  cases e
  refine ⟨q, cap - n, by rw [List.length_drop], by rw [List.length_drop]; omega, by omega, ?_⟩
  rcases h with h | ⟨b, off, hp, hb, h⟩
  · left; rw [h]; simp
  · by_cases h0 : n = l.length
    · left; rw [h0]; simp
    · right
      refine ⟨b, off + n, ?_, hb, fun i hi => ?_⟩
      · rw [hq, if_neg (by omega), hp, Option.map_some, addr_add]
      · rw [List.length_drop] at hi
        rw [Nat.add_assoc, h (n + i) (by omega), List.getElem_drop]

theorem restAt_cons {R : Nat} {w : World} {u : Value} {c : UInt8} {r : List UInt8} (h : RestAt R w u (c :: r)) :
    ∃ b off cap, u = .slice (some ⟨b, off, none⟩) (r.length + 1) cap ∧ w.cell? ⟨b, off, none⟩ = some (.int .u8 c.toNat) := by
  obtain ⟨p, cap, rfl, _, _, h⟩ := h
  rcases h with h | ⟨b, off, rfl, _, h⟩
  · cases h
  · exact ⟨b, off, cap, rfl, h 0 (by simp)⟩

theorem grown_set (w : World) (R i : Nat) (v : Value) : w.grownBy (w.setCell ⟨R, i, none⟩ v) (some R) :=
  ⟨rfl, rfl, rfl, by simp [World.setCell], fun k _ hne => Below.heap_setCell w _ _ k (fun e => hne (by rw [e]))⟩

theorem grown_trans {a b c : World} {R : Nat} (h : a.grownBy b (some R)) (k : b.grownBy c (some R)) : a.grownBy c (some R) :=
  ⟨k.os.trans h.os, k.tape.trans h.tape, k.output.trans h.output, Nat.le_trans h.size k.size, fun i hi hn => (k.block i (Nat.lt_of_lt_of_le hi h.size) hn).trans (h.block i hi hn)⟩

theorem rd_set0 {w : World} {R : Nat} {v v' u : Value} {T : TypeId} (h : w.heap[R]? = some (.cells #[v, u] T (0, 0))) : (w.setCell ⟨R, 0, none⟩ v').heap[R]? = some (.cells #[v', u] T (0, 0)) := heap_setCell_same w R 0 _ T v' h
theorem rd_set1 {w : World} {R : Nat} {v u u' : Value} {T : TypeId} (h : w.heap[R]? = some (.cells #[v, u] T (0, 0))) : (w.setCell ⟨R, 1, none⟩ u').heap[R]? = some (.cells #[v, u'] T (0, 0)) := heap_setCell_same w R 1 _ T u' h

end Go.Proofs.Ytipbdpjnabeilaa

/-
  The contract of the reader's field.
-/
namespace Go.Proofs.Ytipbdpjnabeilaa
open Go.RowKit

theorem Try.infoStr : (Try.prog.info? 9).map (fun i => (i.zero, i.size, i.bytes)) = some (some (.string ⟨#[]⟩), 1, 16) := by kernel_rfl

/-- v owns the texts ts, in a row at or behind n0. -/
def OwnT (n0 : Nat) (w : World) (v : Value) (ts : List ByteArray) : Prop := w.ownsRow n0 9 1 v ts.length (ts.map Value.string)

theorem own_weak {w : World} {base base' : Nat} {e : TypeId} {size : Nat} {v : Value} {n : Nat} {xs : List Value} (h : w.ownsRow base e size v n xs) (hb : base' ≤ base) : w.ownsRow base' e size v n xs := by
  refine ⟨h.1, ?_⟩
  rcases h.2 with h2 | ⟨g, cap, cur, h3, h4, h5⟩
  · exact .inl h2
  · exact .inr ⟨g, cap, cur, h3, by omega, h5⟩

theorem OwnT.on {n0 : Nat} {w w' : World} {v : Value} {ts : List ByteArray} (h : OwnT n0 w v ts) (hb : Below w.heap.size w w') : OwnT n0 w' v ts := own_on h hb

theorem OwnT.grown {n0 : Nat} {w w' : World} {v : Value} {ts : List ByteArray} {R : Nat} (h : OwnT n0 w v ts) (hg : w.grownBy w' (some R)) (hR : R < n0) : OwnT n0 w' v ts := by
  refine World.ownsRow.kept h hg ?_
  rcases hv : v.ownBlock with _ | k
  · exact Or.inl rfl
  · right
    intro e
    have := (World.ownsRow.lt h k hv).1
    simp at e; omega

theorem countS_le (s : Rst) : (countS s).1 ≤ 255 := by
  unfold countS
  split
  · rename_i c _ _ _; have := c.toNat_lt; simp; omega
  · simp

theorem textsS_snoc (n : Nat) (s : Rst) : textsS (n + 1) s = ((textsS n s).1 ++ [(textS (textsS n s).2).1], (textS (textsS n s).2).2) := by
  induction n generalizing s with
  | zero => rfl
  | succ n ih =>
    rw [textsS, ih]
    simp [textsS]

theorem textsS_len (n : Nat) (s : Rst) : (textsS n s).1.length = n := by
  induction n generalizing s with
  | zero => rfl
  | succ n ih => rw [textsS]; simp [ih]

end Go.Proofs.Ytipbdpjnabeilaa

/-
  The contracts of sameField, slices.EqualFunc over it, Equal, slices.Clone of texts, and Texts.
-/
namespace Go.Proofs.Ytipbdpjnabeilaa
open Go.RowKit

theorem toList_eq (a b : ByteArray) : (a.toList == b.toList) = decide (a = b) := by
  rw [Bool.eq_iff_iff]
  simp only [beq_iff_eq, decide_eq_true_eq]
  constructor
  · intro h
    rw [Lib.toList_data, Lib.toList_data] at h
    obtain ⟨⟨l⟩⟩ := a
    obtain ⟨⟨m⟩⟩ := b
    simp at h
    rw [h]
  · rintro rfl; rfl

end Go.Proofs.Ytipbdpjnabeilaa

/-
  The contracts of SameTexts, SameFields and Same of the reference.
-/
namespace Go.Proofs.Ytipbdpjnabeilaa
open Go.RowKit

theorem str_ne {s t : ByteArray} (h : ¬ s = t) : (s.toList == t.toList) = false := by
  rw [Lib.toList_data, Lib.toList_data, beq_eq_false_iff_ne]
  intro e
  apply h
  obtain ⟨⟨s⟩⟩ := s
  obtain ⟨⟨t⟩⟩ := t
  simp at e
  rw [e]

set_option maxHeartbeats 1000000 in
set_option maxRecDepth 100000 in
theorem sameT_any (p q : Option Addr) (cap cap' : Nat) (ts us : List ByteArray) (w : World) (h1 : TxtAt w p ts) (h2 : TxtAt w q us) (hl1 : ts.length ≤ maxLen) :
    Calls Try.prog 41 #[.slice p ts.length cap, .slice q us.length cap'] w fun e w' => e = .returned (.bool (decide (ts = us))) ∧ ∃ n, w' = w.drewN n := by
  unfold maxLen at hl1
  obtain ⟨r, hr⟩ : ∃ r, decide (ts = us) = r := ⟨_, rfl⟩
  rw [hr]
  have HR := hid hr
  have H1 := hid h1
  have H2 := hid h2
  clear hr h1 h2
  by_cases hl : ts.length = us.length
  · have hb : ((ts.length : Int) != (us.length : Int)) = false := by simp [hl]
    have HL := hid hl
    clear hl
    go_enter Try.func41, Try.ntmps41
    go_wp2_with fail
    go_loopg [5] ts.length (fun g vi wr => ∃ i m : Nat, vi = .int .i64 i ∧ i ≤ ts.length ∧ ts.length - i ≤ g ∧ wr = w.drewN m ∧ Hid (∀ j, j < i → ts[j]? = us[j]?))
    case atStart => exact ⟨0, 0, rfl, by omega, by omega, rfl, fun j h => by omega⟩
    case round =>
      obtain ⟨i, m, rfl, hi, hg, rfl, HJ⟩ := hrel
      by_cases hlt : i < ts.length
      · have hlt2 : i < us.length := by rw [← HL.out]; exact hlt
        have i1 : (0 : Int) ≤ ↑i := by omega
        have i2 : (↑i : Int) < ↑ts.length := by omega
        have i3 : (↑i : Int) < ↑us.length := by omega
        rcases H1.out with hn | ⟨b1, o1, rfl, k1⟩
        · rw [hn] at hlt; simp at hlt
        rcases H2.out with hn | ⟨b2, o2, rfl, k2⟩
        · rw [hn] at hlt2; simp at hlt2
        have e1 := k1 i hlt
        have e2 := k2 i hlt2
        have g1 : ts[i]? = some ts[i] := List.getElem?_eq_getElem hlt
        have g2 : us[i]? = some us[i] := List.getElem?_eq_getElem hlt2
        clear k1 k2
        obtain ⟨s, hs⟩ : ∃ s, ts[i] = s := ⟨_, rfl⟩
        obtain ⟨t, ht⟩ : ∃ t, us[i] = t := ⟨_, rfl⟩
        rw [hs] at e1 g1
        rw [ht] at e2 g2
        have G1 := hid g1
        have G2 := hid g2
        clear hs ht g1 g2
        by_cases hst : s = t
        · subst hst
          go_wp2_with fail
          go_quiet (fail)
          go_wp2_with fail
          go_roundg (ts.length - (i + 1))
          case measure => omega
          refine ⟨i + 1, _, by go_num, by omega, by omega, rfl, fun j hj => ?_⟩
          by_cases e : j = i
          · subst e; rw [G1.out, G2.out]
          · exact HJ.out j (by omega)
        · have hne := str_ne hst
          have H0 : Hid (r = false) := HR.out.symm.trans (decide_eq_false fun e => hst (by
            have := G1.out
            rw [e, G2.out] at this
            exact (Option.some.inj this).symm))
          go_wp2_with fail
          go_quiet (fail)
          go_wp2_with fail
          go_ret
          exact ⟨ret_bool H0.out.symm, _, by rw [World.drewN_drewN]⟩
      · have hltz : ¬ (i : Int) < (ts.length : Int) := by omega
        have H0 : Hid (r = true) := HR.out.symm.trans (decide_eq_true (List.ext_getElem? fun j => by
          by_cases hj : j < ts.length
          · exact HJ.out j (by omega)
          · rw [List.getElem?_eq_none (by omega), List.getElem?_eq_none (by have := HL.out; omega)]))
        go_wp2_with fail
        go_ret
        exact ⟨ret_bool H0.out.symm, _, rfl⟩
  · have hb : ((ts.length : Int) != (us.length : Int)) = true := by simp; omega
    have H0 : Hid (r = false) := HR.out.symm.trans (decide_eq_false fun e => hl (by rw [e]))
    go_enter Try.func41, Try.ntmps41
    go_wp2_with fail
    go_ret
    exact ⟨ret_bool H0.out.symm, 0, rfl⟩

theorem TxtAt.draws {w : World} {p : Option Addr} {ts : List ByteArray} (h : TxtAt w p ts) (n : Nat) : TxtAt (w.drewN n) p ts := h

set_option maxHeartbeats 2000000 in
set_option maxRecDepth 100000 in
theorem sameF_any (v u : Value) (d e : List Fx) (w : World) (hv : IsXs w v d) (hu : IsXs w u e) (hf : FitX d) (hg : FitX e) :
    Calls Try.prog 26 #[v, u] w fun r w' => r = .returned (.bool (decide (d.map Fx.fld = e.map Fx.fld))) ∧ ∃ n, w' = w.drewN n := by
  obtain ⟨p, cap, rfl, hd, ht⟩ := hv
  obtain ⟨q, cap', rfl, he, ht'⟩ := hu
  have hl1 := hf.1
  have hl2 := hg.1
  unfold maxLen at hl1 hl2
  have HF := hid hf.2
  have HG := hid hg.2
  have HD := hid hd
  have HE := hid he
  have HT := hid ht
  have HT' := hid ht'
  obtain ⟨r, hr⟩ : ∃ r, decide (d.map Fx.fld = e.map Fx.fld) = r := ⟨_, rfl⟩
  rw [hr]
  have HR := hid hr
  clear hr hd he ht ht' hf hg
  by_cases hl : d.length = e.length
  · have hb : ((d.length : Int) != (e.length : Int)) = false := by simp [hl]
    have HL := hid hl
    clear hl
    go_enter Try.func26, Try.ntmps26
    go_wp2_with fail
    go_loopg [5] d.length (fun g vi wr => ∃ i m : Nat, vi = .int .i64 i ∧ i ≤ d.length ∧ d.length - i ≤ g ∧ wr = w.drewN m ∧ Hid (∀ j, j < i → (d.map Fx.fld)[j]? = (e.map Fx.fld)[j]?))
    case atStart => exact ⟨0, 0, rfl, by omega, by omega, rfl, fun j h => by omega⟩
    case round =>
      obtain ⟨i, m, rfl, hi, hgk, rfl, HJ⟩ := hrel
      by_cases hlt : i < d.length
      · have hlt2 : i < e.length := by rw [← HL.out]; exact hlt
        have i1 : (0 : Int) ≤ ↑i := by omega
        have i2 : (↑i : Int) < ↑d.length := by omega
        have i3 : (↑i : Int) < ↑e.length := by omega
        rcases HD.out with hn | ⟨b1, o1, rfl, k1⟩
        · rw [hn] at hlt; simp at hlt
        rcases HE.out with hn | ⟨b2, o2, rfl, k2⟩
        · rw [hn] at hlt2; simp at hlt2
        obtain ⟨x0, x1⟩ := k1 i hlt
        obtain ⟨y0, y1⟩ := k2 i hlt2
        have g1 : (d.map Fx.fld)[i]? = some (d[i]).fld := by rw [List.getElem?_map, List.getElem?_eq_getElem hlt]; rfl
        have g2 : (e.map Fx.fld)[i]? = some (e[i]).fld := by rw [List.getElem?_map, List.getElem?_eq_getElem hlt2]; rfl
        have fx := HF.out _ (List.getElem_mem hlt)
        have fy := HG.out _ (List.getElem_mem hlt2)
        have tx := HT.out _ (List.getElem_mem hlt)
        have ty := HT'.out _ (List.getElem_mem hlt2)
        clear k1 k2
        obtain ⟨x, hx⟩ : ∃ x, d[i] = x := ⟨_, rfl⟩
        obtain ⟨y, hy⟩ : ∃ y, e[i] = y := ⟨_, rfl⟩
        rw [hx] at x0 x1 g1 fx tx
        rw [hy] at y0 y1 g2 fy ty
        unfold Fx.sl at x1 y1
        have G1 := hid g1
        have G2 := hid g2
        obtain ⟨W, hW⟩ : ∃ W, w.drewN m = W := ⟨_, rfl⟩
        have HC : Hid (∀ n, Calls Try.prog 41 #[.slice x.p x.txt.length x.cap, .slice y.p y.txt.length y.cap] (W.drewN n) fun r w' => r = .returned (.bool (decide (x.txt = y.txt))) ∧ ∃ k, w' = (W.drewN n).drewN k) := fun n => by
          subst hW
          exact sameT_any _ _ _ _ _ _ _ tx ty fx.2.1
        replace x0 : W.cell? ⟨b1, o1 + i * 2, none⟩ = some (.string x.name) := by subst hW; exact x0
        replace x1 : W.cell? ⟨b1, o1 + i * 2 + 1, none⟩ = some (.slice x.p x.txt.length x.cap) := by subst hW; exact x1
        replace y0 : W.cell? ⟨b2, o2 + i * 2, none⟩ = some (.string y.name) := by subst hW; exact y0
        replace y1 : W.cell? ⟨b2, o2 + i * 2 + 1, none⟩ = some (.slice y.p y.txt.length y.cap) := by subst hW; exact y1
        have HW := hid hW
        rw [hW]
        have mixed := Try.mixed
        clear hx hy g1 g2 fx fy tx ty hW
        by_cases hst : x.name = y.name
        · obtain ⟨nm, hnm⟩ : ∃ nm, y.name = nm := ⟨_, rfl⟩
          rw [hst, hnm] at x0
          rw [hnm] at y0
          have HN : Hid (x.name = nm ∧ y.name = nm) := ⟨hst.trans hnm, hnm⟩
          clear hst hnm
          by_cases hts : x.txt = y.txt
          · have hd := decide_eq_true hts
            have HTS := hid hts
            rw [hd] at HC
            clear hd hts
            go_wp2_with fail
            refine wp_region_quiet_lit mixed (by kernel_rfl) ?_
            repeat (go_big_quiet_step (first | (go_at_call 41; refine Calls.quiet_of (HC.out _))))
            refine wpQuiet_nil ?_
            intro _ hw'
            obtain ⟨nq, hw''⟩ := hw'
            subst hw''
            go_wp2_with fail
            go_roundg (d.length - (i + 1))
            case measure => omega
            refine ⟨i + 1, m + nq, by go_num, by omega, by omega, by rw [← HW.out, World.drewN_drewN], fun j hj => ?_⟩
            by_cases ej : j = i
            · subst ej
              rw [G1.out, G2.out]
              unfold Fx.fld
              rw [HN.out.1, HN.out.2, HTS.out]
            · exact HJ.out j (by omega)
          · have hd := decide_eq_false hts
            rw [hd] at HC
            have H0 : Hid (r = false) := HR.out.symm.trans (decide_eq_false fun ee => hts (by
              have := G1.out
              rw [ee, G2.out] at this
              have := congrArg Prod.snd (Option.some.inj this)
              exact this.symm))
            clear hd hts
            go_wp2_with fail
            refine wp_region_quiet_lit mixed (by kernel_rfl) ?_
            repeat (go_big_quiet_step (first | (go_at_call 41; refine Calls.quiet_of (HC.out _))))
            refine wpQuiet_nil ?_
            intro _ hw'
            obtain ⟨nq, hw''⟩ := hw'
            subst hw''
            go_wp2_with fail
            go_ret
            exact ⟨ret_bool H0.out.symm, m + nq, by rw [← HW.out, World.drewN_drewN]⟩
        · have hne := str_ne hst
          have H0 : Hid (r = false) := HR.out.symm.trans (decide_eq_false fun ee => hst (by
            have := G1.out
            rw [ee, G2.out] at this
            have := congrArg Prod.fst (Option.some.inj this)
            exact this.symm))
          go_wp2_with fail
          refine wp_region_quiet_lit mixed (by kernel_rfl) ?_
          repeat (go_big_quiet_step (first | (go_at_call 41; refine Calls.quiet_of (HC.out _))))
          refine wpQuiet_nil ?_
          intro _ hw'
          obtain ⟨nq, hw''⟩ := hw'
          subst hw''
          go_wp2_with fail
          go_ret
          exact ⟨ret_bool H0.out.symm, m + nq, by rw [← HW.out, World.drewN_drewN]⟩
      · have hltz : ¬ (i : Int) < (d.length : Int) := by omega
        have H0 : Hid (r = true) := HR.out.symm.trans (decide_eq_true (List.ext_getElem? fun j => by
          by_cases hj : j < d.length
          · exact HJ.out j (by omega)
          · rw [List.getElem?_eq_none (by simp; omega), List.getElem?_eq_none (by have := HL.out; simp; omega)]))
        go_wp2_with fail
        go_ret
        exact ⟨ret_bool H0.out.symm, _, rfl⟩
  · have hb : ((d.length : Int) != (e.length : Int)) = true := by simp; omega
    have H0 : Hid (r = false) := HR.out.symm.trans (decide_eq_false fun ee => hl (by have := congrArg List.length ee; simpa using this))
    go_enter Try.func26, Try.ntmps26
    go_wp2_with fail
    go_ret
    exact ⟨ret_bool H0.out.symm, 0, rfl⟩

end Go.Proofs.Ytipbdpjnabeilaa

/-
  The contracts of the reader's value, and of Decode.
-/
namespace Go.Proofs.Ytipbdpjnabeilaa
open Go.RowKit

theorem Try.infoFld : (Try.prog.info? 61).map (fun i => (i.zero, i.size, i.bytes)) = some (some (.agg #[.string ⟨#[]⟩, .slice none 0 0]), 2, 40) := by kernel_rfl

def cellsX (d : List Fx) : List Value := d.flatMap encX
theorem cellsX_append (d e : List Fx) : cellsX (d ++ e) = cellsX d ++ cellsX e := List.flatMap_append
theorem cellsX_len (d : List Fx) : (cellsX d).length = d.length * 2 := by
  induction d with
  | nil => rfl
  | cons x d ih => simp [cellsX, encX] at ih ⊢; omega
theorem cellsX_get (d : List Fx) (i : Nat) (h : i < d.length) : (cellsX d)[i * 2]? = some (.string d[i].name) ∧ (cellsX d)[i * 2 + 1]? = some d[i].sl := by
  induction d generalizing i with
  | nil => simp at h
  | cons x d ih =>
    have e : cellsX (x :: d) = .string x.name :: x.sl :: cellsX d := rfl
    rw [e]
    cases i with
    | zero => simp
    | succ i =>
      have := ih i (by simpa using h)
      rw [show (i + 1) * 2 = i * 2 + 1 + 1 by omega]
      simpa using this

/-- v owns the fields d, and each of them its texts, in rows at or behind n0. -/
def OwnXs (n0 : Nat) (w : World) (v : Value) (d : List Fx) : Prop := w.ownsRow n0 61 2 v d.length (cellsX d) ∧ ∀ x ∈ d, OwnT n0 w x.sl x.txt

theorem OwnT.txtAt {n0 : Nat} {w : World} {p : Option Addr} {cap : Nat} {ts : List ByteArray} (h : OwnT n0 w (.slice p ts.length cap) ts) : TxtAt w p ts := by
  rcases h.2 with ⟨_, h0⟩ | ⟨g, c, cur, hv, _, hg, _, _, hsz, htk⟩
  · exact Or.inl (List.length_eq_zero_iff.1 h0)
  · right
    injection hv with hp
    refine ⟨g, 0, hp, fun i hi => ?_⟩
    rw [Nat.zero_add, cell_of_row w g i cur _ _ hg]
    have : (ts.map Value.string)[i]? = cur.toList[i]? := by
      rw [← htk, List.getElem?_take, if_pos (by omega)]
    rw [← Array.getElem?_toList, ← this]
    simp [hi]

theorem OwnXs.is {n0 : Nat} {w : World} {v : Value} {d : List Fx} (h : OwnXs n0 w v d) : IsXs w v d := by
  obtain ⟨h1, h2⟩ := h
  rcases h1.2 with ⟨rfl, h0⟩ | ⟨g, c, cur, rfl, _, hg, _, _, hsz, htk⟩
  · obtain rfl := List.length_eq_zero_iff.1 h0
    exact ⟨none, 0, rfl, Or.inl rfl, fun x hx => by simp at hx⟩
  · refine ⟨_, c, rfl, Or.inr ⟨g, 0, rfl, fun i hi => ?_⟩, fun x hx => OwnT.txtAt (h2 x hx)⟩
    obtain ⟨c0, c1⟩ := cellsX_get d i hi
    have e : ∀ j, j < d.length * 2 → (cellsX d)[j]? = cur[j]? := fun j hj => by
      rw [← htk, List.getElem?_take, if_pos hj, Array.getElem?_toList]
    rw [Nat.zero_add, cell_of_row w g _ cur _ _ hg, cell_of_row w g _ cur _ _ hg, ← e _ (by omega), ← e _ (by omega)]
    exact ⟨c0, c1⟩

theorem OwnXs.on {n0 : Nat} {w w' : World} {v : Value} {d : List Fx} (h : OwnXs n0 w v d) (hb : Below w.heap.size w w') : OwnXs n0 w' v d := ⟨own_on h.1 hb, fun x hx => (h.2 x hx).on hb⟩

theorem OwnXs.far {n0 R : Nat} {w w' : World} {v : Value} {d : List Fx} (h : OwnXs n0 w v d) (hg : w.grownBy w' (some R)) (hR : R < n0) : OwnXs n0 w' v d := by
  refine ⟨World.ownsRow.kept h.1 hg ?_, fun x hx => (h.2 x hx).grown hg hR⟩
  rcases hv : v.ownBlock with _ | k
  · exact Or.inl rfl
  · right
    intro e
    have := (World.ownsRow.lt h.1 k hv).1
    simp at e; omega

/-- Texts lie in no row of fields. -/
theorem OwnT.rowX {n0 : Nat} {w w' : World} {sv v : Value} {ts : List ByteArray} {n m : Nat} {xs : List Value} {m0 : Nat} (h : OwnT n0 w sv ts) (hv : w.ownsRow m0 61 n v m xs) (hg : w.grownBy w' v.ownBlock) : OwnT n0 w' sv ts := by
  refine World.ownsRow.kept h hg ?_
  rcases h.2 with ⟨rfl, _⟩ | ⟨g, c, cur, rfl, _, hgb, _⟩
  · exact Or.inl rfl
  · right
    intro e
    rcases hv.2 with ⟨rfl, _⟩ | ⟨g', c', cur', rfl, _, hgb', _⟩
    · cases e
    · have : g = g' := by simpa [Value.ownBlock] using e
      subst this
      rw [hgb] at hgb'
      injection hgb' with hgb'
      injection hgb' with _ ht
      exact absurd ht (by decide)

theorem fieldsS_snoc (n : Nat) (s : Rst) : fieldsS (n + 1) s = ((fieldsS n s).1 ++ [(fieldS (fieldsS n s).2).1], (fieldS (fieldsS n s).2).2) := by
  induction n generalizing s with
  | zero => rfl
  | succ n ih =>
    rw [fieldsS, ih]
    simp [fieldsS]

theorem own_slice {n0 : Nat} {w : World} {sv : Value} {ts : List ByteArray} (h : OwnT n0 w sv ts) : ∃ p cap, sv = .slice p ts.length cap := by
  rcases h.2 with ⟨hv, h0⟩ | ⟨g, cap, cur, hv, _⟩
  · exact ⟨none, 0, by rw [hv, h0]⟩
  · exact ⟨_, _, hv⟩

theorem news_x (w : World) (x : Fx) : ∀ j u, (cellsX [x])[j]? = some u → (w.alloc (.cells #[.string x.name, .slice x.p x.txt.length x.cap] 61)).cell? ((⟨w.heap.size, 0, none⟩ : Addr).add j) = some u := by
  intro j u hj
  have e : cellsX [x] = [.string x.name, .slice x.p x.txt.length x.cap] := rfl
  rw [e] at hj
  match j, hj with
  | 0, hj => simp at hj; subst hj; simp [Addr.add]
  | 1, hj => simp at hj; subst hj; rw [addr_add]; simp

theorem cellsX_one (d : List Fx) : ∀ u ∈ cellsX d, u.oneCell' = true := by
  intro u hu
  obtain ⟨x, _, hx⟩ := List.mem_flatMap.1 hu
  simp [encX] at hx
  rcases hx with rfl | rfl <;> rfl

/-- One field more behind a row of fields. -/
theorem OwnXs.put {n0 : Nat} {w w' : World} {v v' : Value} {d : List Fx} {x : Fx} (h : OwnXs n0 w v d) (hx : OwnT n0 w x.sl x.txt) (hown : w'.ownsRow n0 61 2 v' (d.length + 1) (cellsX d ++ cellsX [x])) (hg : w.grownBy w' v.ownBlock) : OwnXs n0 w' v' (d ++ [x]) := by
  refine ⟨?_, fun y hy => ?_⟩
  · rw [cellsX_append, List.length_append]; exact hown
  · rw [List.mem_append, List.mem_singleton] at hy
    rcases hy with hy | rfl
    · exact (h.2 y hy).rowX h.1 hg
    · exact hx.rowX h.1 hg

def decodeO (l : List UInt8) : Option (List Fld) := if (valueS (l, false)).2.2 = true ∨ 0 < (valueS (l, false)).2.1.length ∨ mayB (valueS (l, false)).1 = false then none else some (valueS (l, false)).1

def DecPost (w : World) (l : List UInt8) (e : Ending) (w' : World) : Prop :=
  (decodeO l = none ∧ e = .returned (.tuple #[.slice none 0 0, .int .i64 4]) ∨ ∃ fs, decodeO l = some fs ∧ ∃ u d, e = .returned (.tuple #[u, .int .i64 0]) ∧ OwnXs w.heap.size w' u d ∧ d.map Fx.fld = fs) ∧ Below w.heap.size w w'

/-- What a reader gives, a machine can hold. -/
theorem takeS_small (n : Nat) (s : Rst) : (takeS n s).1.length ≤ n := by
  unfold takeS
  split
  · simp
  · simp; omega
theorem textS_small (s : Rst) : (textS s).1.size ≤ 255 := by
  have h1 := takeS_small (countS s).1 (countS s).2
  have h2 := countS_le s
  show (takeS (countS s).1 (countS s).2).1.toArray.size ≤ 255
  rw [List.size_toArray]; omega
theorem textsS_small (n : Nat) (s : Rst) : ∀ t ∈ (textsS n s).1, t.size ≤ 255 := by
  induction n generalizing s with
  | zero => intro t ht; simp [textsS] at ht
  | succ n ih =>
    intro t ht
    rw [textsS, List.mem_cons] at ht
    rcases ht with rfl | ht
    · exact textS_small s
    · exact ih _ t ht
theorem fieldS_small (s : Rst) : FitF (fieldS s).1 := by
  refine ⟨?_, ?_, fun t ht => ?_⟩
  · have := textS_small s; show (textS s).1.size ≤ maxLen; unfold maxLen; omega
  · show (textsS _ _).1.length ≤ maxLen
    rw [textsS_len]; have := countS_le (textS s).2; unfold maxLen; omega
  · have := textsS_small _ _ t ht; unfold maxLen; omega
theorem fieldsS_small (n : Nat) (s : Rst) : ∀ f ∈ (fieldsS n s).1, FitF f := by
  induction n generalizing s with
  | zero => intro t ht; simp [fieldsS] at ht
  | succ n ih =>
    intro t ht
    rw [fieldsS, List.mem_cons] at ht
    rcases ht with rfl | ht
    · exact fieldS_small s
    · exact ih _ t ht

theorem fitX_of {d : List Fx} {fs : List Fld} (h : d.map Fx.fld = fs) (hl : d.length ≤ maxLen) (hf : ∀ f ∈ fs, FitF f) : FitX d :=
  ⟨hl, fun x hx => hf _ (by rw [← h]; exact List.mem_map.2 ⟨x, hx, rfl⟩)⟩

end Go.Proofs.Ytipbdpjnabeilaa

/-
  Rows of plain elements, whatever their kind: how they lie in memory, and who owns them.
-/
namespace Go.Proofs.Ytipbdpjnabeilaa
open Go.RowKit

/-- A kind of element: its type, how many cells it has, and which. -/
structure Kind (α : Type) where
  T : TypeId
  k : Nat
  enc : α → List Value
  len : ∀ x, (enc x).length = k
  pos : 0 < k
  one : ∀ x, ∀ u ∈ enc x, u.oneCell' = true

def Kind.cells {α : Type} (K : Kind α) (d : List α) : List Value := d.flatMap K.enc

theorem Kind.cells_nil {α : Type} (K : Kind α) : K.cells [] = [] := rfl
theorem Kind.cells_one {α : Type} (K : Kind α) (x : α) : K.cells [x] = K.enc x := by simp [Kind.cells]
theorem Kind.cells_append {α : Type} (K : Kind α) (a b : List α) : K.cells (a ++ b) = K.cells a ++ K.cells b := List.flatMap_append
theorem Kind.cells_len {α : Type} (K : Kind α) (d : List α) : (K.cells d).length = d.length * K.k := by
  induction d with
  | nil => simp [Kind.cells]
  | cons x d ih =>
    have e : K.cells (x :: d) = K.enc x ++ K.cells d := rfl
    rw [e, List.length_append, K.len, ih, List.length_cons, Nat.add_mul, Nat.one_mul, Nat.add_comm]

theorem Kind.cells_get {α : Type} (K : Kind α) (d : List α) (i : Nat) (h : i < d.length) (j : Nat) (hj : j < K.k) : (K.cells d)[i * K.k + j]? = (K.enc d[i])[j]? := by
  induction d generalizing i with
  | nil => simp at h
  | cons x d ih =>
    have e : K.cells (x :: d) = K.enc x ++ K.cells d := rfl
    rw [e]
    cases i with
    | zero => rw [Nat.zero_mul, Nat.zero_add, List.getElem?_append_left (by rw [K.len]; exact hj)]; rfl
    | succ i =>
      have hl : (K.enc x).length ≤ (i + 1) * K.k + j := by rw [K.len, Nat.add_mul, Nat.one_mul]; omega
      rw [List.getElem?_append_right hl, K.len]
      have e2 : (i + 1) * K.k + j - K.k = i * K.k + j := by rw [Nat.add_mul, Nat.one_mul]; omega
      rw [e2]
      exact ih i (by simpa using h)

theorem Kind.cells_ones {α : Type} (K : Kind α) (d : List α) : ∀ u ∈ K.cells d, u.oneCell' = true := by
  intro u hu
  obtain ⟨x, _, hx⟩ := List.mem_flatMap.1 hu
  exact K.one x u hx

/-- The elements d lie from off on in block b. -/
def Kind.At {α : Type} (K : Kind α) (w : World) (b off : Nat) (d : List α) : Prop :=
  ∀ i, (h : i < d.length) → ∀ j u, (K.enc d[i])[j]? = some u → w.cell? ⟨b, off + i * K.k + j, none⟩ = some u

/-- v is a slice that holds the elements d. -/
def Kind.Is {α : Type} (K : Kind α) (w : World) (v : Value) (d : List α) : Prop :=
  ∃ p cap, v = .slice p d.length cap ∧ (d = [] ∨ ∃ b off, p = some ⟨b, off, none⟩ ∧ K.At w b off d)

/-- v owns a row of the elements d, in a block at or behind n0. -/
def Kind.Own {α : Type} (K : Kind α) (n0 : Nat) (w : World) (v : Value) (d : List α) : Prop := w.ownsRow n0 K.T K.k v d.length (K.cells d)

theorem Kind.at_kept {α : Type} {K : Kind α} {w w' : World} {b off : Nat} {d : List α} (h : K.At w b off d) (hb : Below w.heap.size w w') : K.At w' b off d :=
  fun i hi j u hu => (hb.cell (p := ⟨b, off + i * K.k + j, none⟩) (cell_block (h i hi j u hu))).trans (h i hi j u hu)

theorem Kind.is_kept {α : Type} {K : Kind α} {w w' : World} {v : Value} {d : List α} (h : K.Is w v d) (hb : Below w.heap.size w w') : K.Is w' v d := by
  obtain ⟨p, cap, rfl, h⟩ := h
  refine ⟨p, cap, rfl, ?_⟩
  rcases h with h | ⟨b, off, hp, h⟩
  · exact Or.inl h
  · exact Or.inr ⟨b, off, hp, K.at_kept h hb⟩

theorem Kind.is_nil {α : Type} (K : Kind α) (w : World) : K.Is w (.slice none 0 0) [] := ⟨none, 0, rfl, Or.inl rfl⟩
theorem Kind.own_nil {α : Type} (K : Kind α) (n0 : Nat) (w : World) : K.Own n0 w (.slice none 0 0) [] := World.ownsRow_nil _ _ _ _

theorem Kind.own_on {α : Type} {K : Kind α} {n0 : Nat} {w w' : World} {v : Value} {d : List α} (h : K.Own n0 w v d) (hb : Below w.heap.size w w') : K.Own n0 w' v d := _root_.Go.Proofs.Ytipbdpjnabeilaa.own_on h hb
theorem Kind.own_weak {α : Type} {K : Kind α} {n0 n1 : Nat} {w : World} {v : Value} {d : List α} (h : K.Own n0 w v d) (hn : n1 ≤ n0) : K.Own n1 w v d := _root_.Go.Proofs.Ytipbdpjnabeilaa.own_weak h hn

theorem Kind.own_shape {α : Type} {K : Kind α} {n0 : Nat} {w : World} {v : Value} {d : List α} (h : K.Own n0 w v d) : ∃ p cap, v = .slice p d.length cap := by
  rcases h.2 with ⟨hv, h0⟩ | ⟨g, cap, cur, hv, _⟩
  · exact ⟨none, 0, by rw [hv, h0]⟩
  · exact ⟨_, _, hv⟩

theorem Kind.own_is {α : Type} {K : Kind α} {n0 : Nat} {w : World} {v : Value} {d : List α} (h : K.Own n0 w v d) : K.Is w v d := by
  rcases h.2 with ⟨rfl, h0⟩ | ⟨g, c, cur, rfl, _, hg, _, _, hsz, htk⟩
  · obtain rfl := List.length_eq_zero_iff.1 h0
    exact K.is_nil w
  · refine ⟨_, c, rfl, Or.inr ⟨g, 0, rfl, fun i hi j u hu => ?_⟩⟩
    have hj : j < K.k := by
      have := (List.getElem?_eq_some_iff.1 hu).1
      rwa [K.len] at this
    have hlt : i * K.k + j < d.length * K.k := by
      have h1 : (i + 1) * K.k ≤ d.length * K.k := Nat.mul_le_mul_right _ hi
      rw [Nat.add_mul, Nat.one_mul] at h1
      omega
    rw [Nat.zero_add, cell_of_row w g _ cur _ _ hg, ← Array.getElem?_toList]
    have : (K.cells d)[i * K.k + j]? = cur.toList[i * K.k + j]? := by rw [← htk, List.getElem?_take, if_pos hlt]
    rw [← this, K.cells_get d i hi j hj, hu]

/-- What a slice of elements gives an append. -/
theorem Kind.src {α : Type} {K : Kind α} {w : World} {p : Option Addr} {d : List α} (h : d = [] ∨ ∃ b off, p = some ⟨b, off, none⟩ ∧ K.At w b off d) :
    d.length = 0 ∨ ∃ ad, p = some ad ∧ ∀ j u, (K.cells d)[j]? = some u → w.cell? (ad.add j) = some u := by
  rcases h with rfl | ⟨b, off, rfl, hx⟩
  · exact Or.inl rfl
  · refine Or.inr ⟨_, rfl, fun j u hu => ?_⟩
    have hj : j < d.length * K.k := by
      have := (List.getElem?_eq_some_iff.1 hu).1
      rwa [K.cells_len] at this
    have hk : j / K.k < d.length := (Nat.div_lt_iff_lt_mul K.pos).2 hj
    have hm : j % K.k < K.k := Nat.mod_lt _ K.pos
    have e : j / K.k * K.k + j % K.k = j := by rw [Nat.mul_comm]; exact Nat.div_add_mod j K.k
    have hg := K.cells_get d (j / K.k) hk (j % K.k) hm
    rw [e, hu] at hg
    have := hx (j / K.k) hk (j % K.k) u hg.symm
    rw [addr_add]
    rw [Nat.add_assoc, e] at this
    exact this

/-- A literal row of one element. -/
theorem Kind.news {α : Type} (K : Kind α) (w : World) (x : α) : ∀ j u, (K.cells [x])[j]? = some u → (w.alloc (.cells (K.enc x).toArray K.T)).cell? ((⟨w.heap.size, 0, none⟩ : Addr).add j) = some u := by
  intro j u hu
  rw [K.cells_one] at hu
  rw [addr_add, Nat.zero_add, cell_of_row _ _ _ _ _ _ (heap_alloc_new w _)]
  simpa using hu

theorem Kind.own_snoc {α : Type} {K : Kind α} {n0 : Nat} {w : World} {v : Value} {d : List α} {x : α} {n : Nat} {xs : List Value} (h : w.ownsRow n0 K.T K.k v n xs) (hn : n = d.length + 1) (hx : xs = K.cells d ++ K.cells [x]) : K.Own n0 w v (d ++ [x]) := by
  subst hn hx
  unfold Kind.Own
  rw [K.cells_append, List.length_append]
  exact h

end Go.Proofs.Ytipbdpjnabeilaa

/-
  Versions in memory (stage 6), and the reference's SameVersion, SameVersions.
-/
namespace Go.Proofs.Ytipbdpjnabeilaa
open Go.RowKit

/-- A version as it lies in memory: its value's slice, and the fields there. -/
structure Vx where
  num : Int
  stamp : Int
  tick : Int
  live : Bool
  p : Option Addr
  cap : Nat
  o : List Fx
  deriving Inhabited

def Vx.sl (x : Vx) : Value := .slice x.p x.o.length x.cap
def Vx.ver (x : Vx) : Vr := ⟨x.num, x.stamp, x.tick, x.live, x.o.map Fx.fld⟩
def Vx.at (w : World) (x : Vx) : Prop := IsXs w x.sl x.o
def encVx (x : Vx) : List Value := [.int .i64 x.num, .int .u64 x.stamp, .int .i64 x.tick, .bool x.live, x.sl]
def KV : Kind Vx := ⟨41, 5, encVx, fun _ => rfl, by decide, fun x u hu => by simp [encVx, Vx.sl] at hu; rcases hu with rfl | rfl | rfl | rfl | rfl <;> rfl⟩

theorem kv_at {w : World} {b off : Nat} {d : List Vx} (h : KV.At w b off d) (i : Nat) (hi : i < d.length) :
    w.cell? ⟨b, off + i * 5, none⟩ = some (.int .i64 (d[i]).num) ∧ w.cell? ⟨b, off + i * 5 + 1, none⟩ = some (.int .u64 (d[i]).stamp) ∧ w.cell? ⟨b, off + i * 5 + 2, none⟩ = some (.int .i64 (d[i]).tick) ∧ w.cell? ⟨b, off + i * 5 + 3, none⟩ = some (.bool (d[i]).live) ∧ w.cell? ⟨b, off + i * 5 + 4, none⟩ = some (d[i]).sl :=
  ⟨h i hi 0 _ rfl, h i hi 1 _ rfl, h i hi 2 _ rfl, h i hi 3 _ rfl, h i hi 4 _ rfl⟩

theorem ver_eq {x y : Vx} : x.ver = y.ver ↔ x.num = y.num ∧ x.stamp = y.stamp ∧ x.tick = y.tick ∧ x.live = y.live ∧ x.o.map Fx.fld = y.o.map Fx.fld := by
  unfold Vx.ver
  simp only [Vr.mk.injEq]

set_option maxHeartbeats 2000000 in
set_option maxRecDepth 100000 in
theorem sameV_any (x y : Vx) (w : World) (hx : x.at w) (hy : y.at w) (hf : FitX x.o) (hg : FitX y.o) :
    Calls Try.prog 18 #[.agg (encVx x).toArray, .agg (encVx y).toArray] w fun e w' => e = .returned (.bool (decide (x.ver = y.ver))) ∧ Below w.heap.size w w' := by
  have HSF : Hid (∀ W, Below w.heap.size w W → Calls Try.prog 26 #[x.sl, y.sl] W fun r w' => r = .returned (.bool (decide (x.o.map Fx.fld = y.o.map Fx.fld))) ∧ ∃ n, w' = W.drewN n) := fun W hW => sameF_any x.sl y.sl x.o y.o W (hx.kept hW) (hy.kept hW) hf hg
  have HV := hid (ver_eq (x := x) (y := y))
  obtain ⟨r, hr⟩ : ∃ r, decide (x.ver = y.ver) = r := ⟨_, rfl⟩
  rw [hr]
  have HR := hid hr
  have HBX : Hid (Below w.heap.size w ((w.alloc (.cells (encVx x).toArray 41)).alloc (.cells (encVx y).toArray 41))) := ((Below.refl _ _).alloc (Nat.le_refl _) _).alloc (by simp) _
  obtain ⟨xn, xs, xt, xl, xp, xc, xo⟩ := x
  obtain ⟨yn, ys, yt, yl, yp, yc, yo⟩ := y
  simp only [encVx, Vx.sl] at HSF HBX HV ⊢
  clear hx hy hf hg hr
  have no : ¬ (xn = yn ∧ xs = ys ∧ xt = yt ∧ xl = yl ∧ xo.map Fx.fld = yo.map Fx.fld) → r = false := fun h => by rw [← HR.out]; exact decide_eq_false fun e => h (HV.out.1 e)
  have NO := hid no
  clear no
  show Calls Try.prog 18 #[.agg #[.int .i64 xn, .int .u64 xs, .int .i64 xt, .bool xl, .slice xp xo.length xc], .agg #[.int .i64 yn, .int .u64 ys, .int .i64 yt, .bool yl, .slice yp yo.length yc]] w _
  by_cases h1 : xn = yn
  · by_cases h2 : xs = ys
    · by_cases h3 : xt = yt
      · by_cases h4 : xl = yl
        · have HEQ : Hid (r = decide (xo.map Fx.fld = yo.map Fx.fld)) := by
            show _ = _
            rw [← HR.out, decide_eq_decide]
            rw [HV.out]
            exact ⟨fun h => h.2.2.2.2, fun h => ⟨h1, h2, h3, h4, h⟩⟩
          subst h1 h2 h3 h4
          have HC := hid (HSF.out _ HBX.out)
          clear NO HV HR HSF
          obtain ⟨Q, hQ⟩ : ∃ Q, decide (xo.map Fx.fld = yo.map Fx.fld) = Q := ⟨_, rfl⟩
          rw [hQ] at HC HEQ
          clear hQ
          cases xl
          all_goals
            go_enter Try.func18, Try.ntmps18
            go_wp2_with fail
            refine HC.out.mono ?_
            rintro e w1 ⟨rfl, n1, rfl⟩
            go_wp2_with fail
            go_ret
            exact ⟨ret_bool HEQ.out.symm, bel_drewN HBX.out n1⟩
        · have HN := hid (NO.out fun h => h4 h.2.2.2.1)
          subst h1 h2 h3
          have h4' : (xl == yl) = false := by simpa using h4
          clear NO HV HR HSF h4
          go_enter Try.func18, Try.ntmps18
          go_wp2_with fail
          go_ret
          exact ⟨ret_bool HN.out.symm, HBX.out⟩
      · have HN := hid (NO.out fun h => h3 h.2.2.1)
        subst h1 h2
        have h3' : (xt == yt) = false := by simpa using h3
        clear NO HV HR HSF h3
        go_enter Try.func18, Try.ntmps18
        go_wp2_with fail
        go_ret
        exact ⟨ret_bool HN.out.symm, HBX.out⟩
    · have HN := hid (NO.out fun h => h2 h.2.1)
      subst h1
      have h2' : (xs == ys) = false := by simpa using h2
      clear NO HV HR HSF h2
      go_enter Try.func18, Try.ntmps18
      go_wp2_with fail
      go_ret
      exact ⟨ret_bool HN.out.symm, HBX.out⟩
  · have HN := hid (NO.out fun h => h1 h.1)
    have h1' : (xn == yn) = false := by simpa using h1
    clear NO HV HR HSF h1
    go_enter Try.func18, Try.ntmps18
    go_wp2_with fail
    go_ret
    exact ⟨ret_bool HN.out.symm, HBX.out⟩

/-- The cells of a version, from a on in block b. -/
def CellsV (w : World) (b a : Nat) (x : Vx) : Prop := w.cell? ⟨b, a, none⟩ = some (.int .i64 x.num) ∧ w.cell? ⟨b, a + 1, none⟩ = some (.int .u64 x.stamp) ∧ w.cell? ⟨b, a + 2, none⟩ = some (.int .i64 x.tick) ∧ w.cell? ⟨b, a + 3, none⟩ = some (.bool x.live) ∧ w.cell? ⟨b, a + 4, none⟩ = some x.sl

set_option maxHeartbeats 4000000 in
set_option maxRecDepth 100000 in
theorem sameVs_any (v u : Value) (d e : List Vx) (w : World) (hv : KV.Is w v d) (hu : KV.Is w u e) (ha : ∀ x ∈ d, x.at w ∧ FitX x.o) (hb : ∀ x ∈ e, x.at w ∧ FitX x.o) (hl : d.length ≤ maxLen) :
    Calls Try.prog 12 #[v, u] w fun r w' => r = .returned (.bool (decide (d.map Vx.ver = e.map Vx.ver))) ∧ Below w.heap.size w w' := by
  obtain ⟨p, cap, rfl, hd⟩ := hv
  obtain ⟨q, cap', rfl, he⟩ := hu
  unfold maxLen at hl
  have HD := hid hd
  have HE := hid he
  have HA := hid ha
  have HB := hid hb
  obtain ⟨r, hr⟩ : ∃ r, decide (d.map Vx.ver = e.map Vx.ver) = r := ⟨_, rfl⟩
  rw [hr]
  have HR := hid hr
  clear hr hd he ha hb
  by_cases hle : d.length = e.length
  · have hbn : ((d.length : Int) != (e.length : Int)) = false := by simp [hle]
    have HL := hid hle
    clear hle
    go_enter Try.func12, Try.ntmps12
    go_wp2_with fail
    go_loopg [5] d.length (fun g vi wr => ∃ i : Nat, vi = .int .i64 i ∧ i ≤ d.length ∧ d.length - i ≤ g ∧ Hid (Below w.heap.size w wr) ∧ Hid (∀ j, j < i → (d.map Vx.ver)[j]? = (e.map Vx.ver)[j]?))
    case atStart => exact ⟨0, rfl, by omega, by omega, Below.refl _ _, fun j h => by omega⟩
    case round =>
      obtain ⟨i, rfl, hi, hgk, HW, HJ⟩ := hrel
      by_cases hlt : i < d.length
      · have hlt2 : i < e.length := by rw [← HL.out]; exact hlt
        have i1 : (0 : Int) ≤ ↑i := by omega
        have i2 : (↑i : Int) < ↑d.length := by omega
        have i3 : (↑i : Int) < ↑e.length := by omega
        obtain ⟨b1, o1, rfl, k1⟩ : ∃ b off, p = some ⟨b, off, none⟩ ∧ KV.At w b off d := by
          rcases HD.out with h | h
          · rw [h] at hlt; simp at hlt
          · exact h
        obtain ⟨b2, o2, rfl, k2⟩ : ∃ b off, q = some ⟨b, off, none⟩ ∧ KV.At w b off e := by
          rcases HE.out with h | h
          · rw [h] at hlt2; simp at hlt2
          · exact h
        have hc1 : ∀ W, Below w.heap.size w W → CellsV W b1 (o1 + i * 5) d[i] := fun W hW => kv_at (Kind.at_kept k1 hW) i hlt
        have hc2 : ∀ W, Below w.heap.size w W → CellsV W b2 (o2 + i * 5) e[i] := fun W hW => kv_at (Kind.at_kept k2 hW) i hlt2
        have g1 : (d.map Vx.ver)[i]? = some (d[i]).ver := by rw [List.getElem?_map, List.getElem?_eq_getElem hlt]; rfl
        have g2 : (e.map Vx.ver)[i]? = some (e[i]).ver := by rw [List.getElem?_map, List.getElem?_eq_getElem hlt2]; rfl
        have f1 := HA.out _ (List.getElem_mem hlt)
        have f2 := HB.out _ (List.getElem_mem hlt2)
        obtain ⟨x, hx⟩ : ∃ x, d[i] = x := ⟨_, rfl⟩
        obtain ⟨y, hy⟩ : ∃ y, e[i] = y := ⟨_, rfl⟩
        rw [hx] at hc1 g1 f1
        rw [hy] at hc2 g2 f2
        have HC : Hid (∀ W, Below w.heap.size w W → Calls Try.prog 18 #[.agg (encVx x).toArray, .agg (encVx y).toArray] W fun e w' => e = .returned (.bool (decide (x.ver = y.ver))) ∧ Below W.heap.size W w') := fun W hW => sameV_any x y W (f1.1.kept hW) (f2.1.kept hW) f1.2 f2.2
        have G1 := hid g1
        have G2 := hid g2
        have HS : Hid (∀ W, Below w.heap.size w W → CellsV W b1 (o1 + i * 5) x ∧ CellsV W b2 (o2 + i * 5) y) := fun W hW => ⟨hc1 W hW, hc2 W hW⟩
        have HWD : Hid (Below w.heap.size w wr.drew) := HW.out.drew
        obtain ⟨Q, hQ⟩ : ∃ Q, decide (x.ver = y.ver) = Q := ⟨_, rfl⟩
        have HQ := hid hQ
        rw [hQ] at HC
        obtain ⟨xn, xs, xt, xl, xp, xc, xo⟩ := x
        obtain ⟨yn, ys, yt, yl, yp, yc, yo⟩ := y
        simp only [CellsV, Vx.sl, encVx] at HS HC
        have s0 := HS.out _ HWD.out
        clear hc1 hc2 k1 k2 g1 g2 f1 f2 hx hy hQ
        go_upto_region 6 with fail
        go_region_held3 (fun w' => (w'.cell? ⟨b1, o1 + i * 5, none⟩ = some (.int .i64 xn) ∧ w'.cell? ⟨b1, o1 + i * 5 + 1, none⟩ = some (.int .u64 xs) ∧ w'.cell? ⟨b1, o1 + i * 5 + 2, none⟩ = some (.int .i64 xt) ∧ w'.cell? ⟨b1, o1 + i * 5 + 3, none⟩ = some (.bool xl) ∧ w'.cell? ⟨b1, o1 + i * 5 + 4, none⟩ = some (.slice xp xo.length xc)) ∧ w'.cell? ⟨b2, o2 + i * 5, none⟩ = some (.int .i64 yn) ∧ w'.cell? ⟨b2, o2 + i * 5 + 1, none⟩ = some (.int .u64 ys) ∧ w'.cell? ⟨b2, o2 + i * 5 + 2, none⟩ = some (.int .i64 yt) ∧ w'.cell? ⟨b2, o2 + i * 5 + 3, none⟩ = some (.bool yl) ∧ w'.cell? ⟨b2, o2 + i * 5 + 4, none⟩ = some (.slice yp yo.length yc))
          (first | exact s0 | exact s1)
          (first | (go_at_call 18; refine (HC.out _ HWD.out).mono ?_; rintro z w1 ⟨rfl, hq1⟩; have HB1 := hid (bel_then HWD.out HWD.out.size hq1); have s1 := HS.out _ HB1.out; clear hq1))
        cases Q with
        | true =>
          go_wp2_with fail
          go_roundg (d.length - (i + 1))
          case measure => omega
          refine ⟨i + 1, by go_num, by omega, by omega, HB1.out, fun j hj => ?_⟩
          by_cases ej : j = i
          · subst ej
            rw [G1.out, G2.out, of_decide_eq_true HQ.out]
          · exact HJ.out j (by omega)
        | false =>
          have H0 : Hid (r = false) := HR.out.symm.trans (decide_eq_false fun h => by
            have h1 := G1.out
            rw [h, G2.out] at h1
            exact of_decide_eq_false HQ.out (Option.some.inj h1).symm)
          go_wp2_with fail
          go_ret
          exact ⟨ret_bool H0.out.symm, HB1.out⟩
      · have hltz : ¬ (i : Int) < (d.length : Int) := by omega
        have H0 : Hid (r = true) := HR.out.symm.trans (decide_eq_true (List.ext_getElem? fun j => by
          by_cases hj : j < d.length
          · exact HJ.out j (by omega)
          · rw [List.getElem?_eq_none (by rw [List.length_map]; omega), List.getElem?_eq_none (by rw [List.length_map]; have := HL.out; omega)]))
        go_wp2_with fail
        go_ret
        exact ⟨ret_bool H0.out.symm, HW.out⟩
  · have hbn : ((d.length : Int) != (e.length : Int)) = true := by simp; omega
    have H0 : Hid (r = false) := HR.out.symm.trans (decide_eq_false fun h => hle (by simpa using congrArg List.length h))
    go_enter Try.func12, Try.ntmps12
    go_wp2_with fail
    go_ret
    exact ⟨ret_bool H0.out.symm, Below.refl _ _⟩

end Go.Proofs.Ytipbdpjnabeilaa

/-
  The reference's chain in memory (stage 6): At.
-/
namespace Go.Proofs.Ytipbdpjnabeilaa
open Go.RowKit

def zeroVx : Vx := ⟨0, 0, 0, false, none, 0, []⟩

/-- A chain of the reference in block g: all that was put, and how many of the first ones are gone. -/
structure RefC (w : World) (g : Nat) (d : List Vx) (gone : Nat) (vs : Value) : Prop where
  put : w.cell? ⟨g, 0, none⟩ = some vs
  gn : w.cell? ⟨g, 1, none⟩ = some (.int .i64 gone)
  f0 : w.frozen? ⟨g, 0, none⟩ = false
  f1 : w.frozen? ⟨g, 1, none⟩ = false
  is : KV.Is w vs d
  each : ∀ x ∈ d, x.at w ∧ FitX x.o
  le : gone ≤ d.length
  few : d.length ≤ 2400000000000
  far : ∀ W, w.grownBy W (some g) → KV.Is W vs d ∧ ∀ x ∈ d, x.at W

theorem cell_kept {w : World} {a : Addr} {v : Value} (o : Obj) (h : w.cell? a = some v) : (w.alloc o).cell? a = some v := (((Below.refl w.heap.size w).alloc (Nat.le_refl _) o).cell (cell_block h)).trans h

/-- What is visible at t, of the versions l. -/
def AnsX (l : List Vx) (t : Int) (x : Vx) (b : Bool) : Prop :=
  (b = true ∧ cutV (l.map Vx.ver) t ≠ 0 ∧ l[cutV (l.map Vx.ver) t - 1]? = some x) ∨ (b = false ∧ cutV (l.map Vx.ver) t = 0 ∧ x = zeroVx)

theorem ansX_none {d : List Vx} {gone : Nat} {t : Int} (hr : RiseV (d.map Vx.ver)) (h : ∀ j, (hj : j < d.length) → gone ≤ j → t < (d[j]).stamp) : AnsX (d.drop gone) t zeroVx false := by
  refine Or.inr ⟨rfl, ?_, rfl⟩
  rw [List.map_drop]
  refine cutV_uniq (rise_drop hr gone) (Nat.zero_le _) (fun i _ hi => by omega) (fun i hi _ => ?_)
  rw [List.length_drop, List.length_map] at hi
  rw [List.getElem_drop, List.getElem_map]
  exact h (gone + i) (by omega) (by omega)

theorem ansX_some {d : List Vx} {gone k : Nat} {t : Int} (hr : RiseV (d.map Vx.ver)) (hk : k < d.length) (hg : gone ≤ k) (hs : (d[k]).stamp ≤ t) (h : ∀ j, (hj : j < d.length) → k + 1 ≤ j → t < (d[j]).stamp) : AnsX (d.drop gone) t d[k] true := by
  have hc : cutV ((d.drop gone).map Vx.ver) t = k + 1 - gone := by
    rw [List.map_drop]
    refine cutV_uniq (rise_drop hr gone) (by rw [List.length_drop, List.length_map]; omega) (fun i hi hik => ?_) (fun i hi hik => ?_)
    · rw [List.length_drop, List.length_map] at hi
      rw [List.getElem_drop, List.getElem_map]
      show (d[gone + i]).stamp ≤ t
      rcases Nat.lt_or_ge (gone + i) k with hlt | hge
      · have := rise_lt hr hlt (by rw [List.length_map]; exact hk)
        rw [List.getElem_map, List.getElem_map] at this
        have this' : (d[gone + i]).stamp < (d[k]).stamp := this
        omega
      · have e : gone + i = k := by omega
        simp only [e]
        exact hs
    · rw [List.length_drop, List.length_map] at hi
      rw [List.getElem_drop, List.getElem_map]
      exact h (gone + i) (by omega) (by omega)
  refine Or.inl ⟨rfl, by rw [hc]; omega, ?_⟩
  rw [hc, List.getElem?_drop, show gone + (k + 1 - gone - 1) = k by omega, List.getElem?_eq_getElem hk]

/-- What At leaves. -/
def AtPost (w : World) (l : List Vx) (t : Int) (e : Ending) (w' : World) : Prop := (∃ x b, e = .returned (.tuple #[.agg (encVx x).toArray, .bool b]) ∧ AnsX l t x b) ∧ Below w.heap.size w w'

set_option maxHeartbeats 4000000 in
set_option maxRecDepth 100000 in
theorem rat_any (g gone : Nat) (d : List Vx) (vs : Value) (t : Int) (w : World) (hC : RefC w g d gone vs) (hr : RiseV (d.map Vx.ver)) :
    Calls Try.prog 28 #[.pointer (some ⟨g, 0, none⟩), .int .u64 t] w fun e w' => AtPost w (d.drop gone) t e w' := by
  obtain ⟨c0, c1, _, _, his, _, hle, hfew, _⟩ := hC
  obtain ⟨p, cap, rfl, hd⟩ := his
  have HD := hid hd
  have HR := hid hr
  have z0 := cell_kept (.cells #[.int .i64 0, .int .u64 0, .int .i64 0, .bool false, .slice none 0 0] 41) c0
  have z1 := cell_kept (.cells #[.int .i64 0, .int .u64 0, .int .i64 0, .bool false, .slice none 0 0] 41) c1
  have HBX : Hid (Below w.heap.size w (w.alloc (.cells #[.int .i64 0, .int .u64 0, .int .i64 0, .bool false, .slice none 0 0] 41))) := (Below.refl _ _).alloc (Nat.le_refl _) _
  clear hd hr c0 c1
  go_enter Try.func28, Try.ntmps28
  go_wp2_with fail
  go_loopg [6] d.length (fun gg vi wr => ∃ m : Nat, vi = .int .i64 ((m : Int) - 1) ∧ gone ≤ m ∧ m ≤ d.length ∧ m - gone ≤ gg ∧ wr = w.alloc (.cells #[.int .i64 0, .int .u64 0, .int .i64 0, .bool false, .slice none 0 0] 41) ∧ Hid (∀ j, (hj : j < d.length) → m ≤ j → t < (d[j]).stamp))
  case atStart => exact ⟨d.length, by go_num, hle, Nat.le_refl _, by omega, rfl, fun j hj h => by omega⟩
  case round =>
    obtain ⟨m, rfl, hm1, hm2, hgm, rfl, HJ⟩ := hrel
    by_cases hlt : gone < m
    · obtain ⟨k, rfl⟩ : ∃ k, m = k + 1 := ⟨m - 1, by omega⟩
      have e : ((k + 1 : Nat) : Int) - 1 = (k : Int) := by omega
      rw [e]
      have hkz : (gone : Int) ≤ (k : Int) := by omega
      have hk0 : (0 : Int) ≤ (k : Int) := by omega
      have hkl : (k : Int) < (d.length : Int) := by omega
      have hk : k < d.length := by omega
      obtain ⟨b1, o1, rfl, k1⟩ : ∃ b off, p = some ⟨b, off, none⟩ ∧ KV.At w b off d := by
        rcases HD.out with h | h
        · rw [h] at hk; simp at hk
        · exact h
      obtain ⟨y0, y1, y2, y3, y4⟩ := kv_at (Kind.at_kept k1 HBX.out) k hk
      have HS : Hid ((d[k]).stamp ≤ t → AnsX (d.drop gone) t d[k] true) := fun h => ansX_some HR.out hk (by omega) h HJ.out
      have HN : Hid (t < (d[k]).stamp → ∀ j, (hj : j < d.length) → k ≤ j → t < (d[j]).stamp) := fun h j hj hkj => by
        rcases Nat.lt_or_ge k j with h1 | h1
        · exact HJ.out j hj (by omega)
        · have e2 : j = k := by omega
          subst e2
          exact h
      generalize d[k] = x at *
      obtain ⟨xn, xs, xt, xl, xp, xc, xo⟩ := x
      simp only [Vx.sl] at y0 y1 y2 y3 y4 HS HN
      clear k1 e
      by_cases hs : xs ≤ t
      · have HA := hid (HS.out hs)
        go_wp2_with fail
        exact bodyPost_ret (v := .tuple #[.agg #[.int .i64 xn, .int .u64 xs, .int .i64 xt, .bool xl, .slice xp xo.length xc], .bool true]) (by simp [results, Try.results28, go_sem]) rfl
          ⟨⟨_, true, rfl, HA.out⟩, by
            first
            | exact (Below.refl _ _).alloc (Nat.le_refl _) _
            | exact (((((HBX.out.setCell (Nat.le_refl _) _).setCell (Nat.le_refl _) _).setCell (Nat.le_refl _) _).setCell (Nat.le_refl _) _).setCell (Nat.le_refl _) _)⟩
      · have hs' : t < xs := by omega
        have HA := hid (HN.out hs')
        go_wp2_with fail
        go_roundg (k - gone)
        case measure => omega
        exact ⟨k, by go_num, by omega, by omega, by omega, rfl, HA⟩
    · have hmz : ¬ (gone : Int) ≤ (m : Int) - 1 := by omega
      have HA := hid (ansX_none (gone := gone) HR.out (fun j hj h => HJ.out j hj (by omega)))
      go_wp2_with fail
      exact bodyPost_ret (v := .tuple #[.agg #[.int .i64 0, .int .u64 0, .int .i64 0, .bool false, .slice none 0 0], .bool false]) (by simp [results, Try.results28, go_sem]) rfl
        ⟨⟨zeroVx, false, rfl, HA.out⟩, by
          first
          | exact (Below.refl _ _).alloc (Nat.le_refl _) _
          | exact (((((HBX.out.setCell (Nat.le_refl _) _).setCell (Nat.le_refl _) _).setCell (Nat.le_refl _) _).setCell (Nat.le_refl _) _).setCell (Nat.le_refl _) _)⟩

/-- What Number leaves. -/
def NumPost (w : World) (d : List Vx) (gone : Nat) (n : Int) (e : Ending) (w' : World) : Prop :=
  (∃ x b, e = .returned (.tuple #[.agg (encVx x).toArray, .bool b]) ∧ ((b = true ∧ ∃ k : Nat, n = (k : Int) + 1 ∧ gone ≤ k ∧ d[k]? = some x) ∨ (b = false ∧ (n ≤ gone ∨ (d.length : Int) < n) ∧ x = zeroVx))) ∧ Below w.heap.size w w'

set_option maxHeartbeats 4000000 in
set_option maxRecDepth 100000 in
theorem rnum_any (g gone : Nat) (d : List Vx) (vs : Value) (n : Int) (w : World) (hC : RefC w g d gone vs) :
    Calls Try.prog 29 #[.pointer (some ⟨g, 0, none⟩), .int .i64 n] w fun e w' => NumPost w d gone n e w' := by
  obtain ⟨c0, c1, _, _, his, _, hle, hfew, _⟩ := hC
  obtain ⟨p, cap, rfl, hd⟩ := his
  have HD := hid hd
  have z0 := cell_kept (.cells #[.int .i64 0, .int .u64 0, .int .i64 0, .bool false, .slice none 0 0] 41) c0
  have z1 := cell_kept (.cells #[.int .i64 0, .int .u64 0, .int .i64 0, .bool false, .slice none 0 0] 41) c1
  have HBX : Hid (Below w.heap.size w (w.alloc (.cells #[.int .i64 0, .int .u64 0, .int .i64 0, .bool false, .slice none 0 0] 41))) := (Below.refl _ _).alloc (Nat.le_refl _) _
  clear hd c0 c1
  by_cases h1 : n ≤ (gone : Int)
  · have HA : Hid (n ≤ (gone : Int) ∨ (d.length : Int) < n) := Or.inl h1
    go_enter Try.func29, Try.ntmps29
    go_wp2_with fail
    exact bodyPost_ret (v := .tuple #[.agg #[.int .i64 0, .int .u64 0, .int .i64 0, .bool false, .slice none 0 0], .bool false]) (by simp [results, Try.results29, go_sem]) rfl
      ⟨⟨zeroVx, false, rfl, Or.inr ⟨rfl, HA.out, rfl⟩⟩, by
        first
        | exact (Below.refl _ _).alloc (Nat.le_refl _) _
        | exact (((((HBX.out.setCell (Nat.le_refl _) _).setCell (Nat.le_refl _) _).setCell (Nat.le_refl _) _).setCell (Nat.le_refl _) _).setCell (Nat.le_refl _) _)⟩
  · by_cases h2 : (d.length : Int) < n
    · have HA : Hid (n ≤ (gone : Int) ∨ (d.length : Int) < n) := Or.inr h2
      go_enter Try.func29, Try.ntmps29
      go_wp2_with fail
      exact bodyPost_ret (v := .tuple #[.agg #[.int .i64 0, .int .u64 0, .int .i64 0, .bool false, .slice none 0 0], .bool false]) (by simp [results, Try.results29, go_sem]) rfl
        ⟨⟨zeroVx, false, rfl, Or.inr ⟨rfl, HA.out, rfl⟩⟩, by
          first
          | exact (Below.refl _ _).alloc (Nat.le_refl _) _
          | exact (((((HBX.out.setCell (Nat.le_refl _) _).setCell (Nat.le_refl _) _).setCell (Nat.le_refl _) _).setCell (Nat.le_refl _) _).setCell (Nat.le_refl _) _)⟩
    · obtain ⟨k, rfl⟩ : ∃ k : Nat, n = (k : Int) + 1 := ⟨(n - 1).toNat, by omega⟩
      have hk : k < d.length := by omega
      have hk0 : (0 : Int) ≤ (k : Int) := by omega
      have hkl : (k : Int) < (d.length : Int) := by omega
      obtain ⟨b1, o1, rfl, k1⟩ : ∃ b off, p = some ⟨b, off, none⟩ ∧ KV.At w b off d := by
        rcases HD.out with h | h
        · rw [h] at hk; simp at hk
        · exact h
      obtain ⟨y0, y1, y2, y3, y4⟩ := kv_at (Kind.at_kept k1 HBX.out) k hk
      have HA : Hid (gone ≤ k ∧ d[k]? = some d[k]) := ⟨by omega, List.getElem?_eq_getElem hk⟩
      generalize d[k] = x at *
      obtain ⟨xn, xs, xt, xl, xp, xc, xo⟩ := x
      simp only [Vx.sl] at y0 y1 y2 y3 y4
      clear k1
      go_enter Try.func29, Try.ntmps29
      go_wp2_with fail
      exact bodyPost_ret (v := .tuple #[.agg #[.int .i64 xn, .int .u64 xs, .int .i64 xt, .bool xl, .slice xp xo.length xc], .bool true]) (by simp [results, Try.results29, go_sem]) rfl
        ⟨⟨_, true, rfl, Or.inl ⟨rfl, k, rfl, HA.out.1, HA.out.2⟩⟩, by
          first
          | exact (Below.refl _ _).alloc (Nat.le_refl _) _
          | exact (((((HBX.out.setCell (Nat.le_refl _) _).setCell (Nat.le_refl _) _).setCell (Nat.le_refl _) _).setCell (Nat.le_refl _) _).setCell (Nat.le_refl _) _)⟩

end Go.Proofs.Ytipbdpjnabeilaa

/-
  The reference's chain (stage 6): Since.
-/
namespace Go.Proofs.Ytipbdpjnabeilaa
open Go.RowKit

theorem Try.infoVer : (Try.prog.info? 41).map (fun i => (i.zero, i.size, i.bytes)) = some (some (.agg #[.int .i64 0, .int .u64 0, .int .i64 0, .bool false, .slice none 0 0]), 5, 56) := by kernel_rfl

def sinceX (l : List Vx) (t : Int) : List Vx := l.filter fun x => decide (t < x.stamp)

/-- Where the stamps rise, those above t are the rest. -/
theorem sinceX_drop : ∀ (l : List Vx) (t : Int), RiseV (l.map Vx.ver) → sinceX l t = l.drop (cutV (l.map Vx.ver) t)
  | [], _, _ => by simp [sinceX]
  | x :: l, t, hr => by
    rw [List.map_cons] at hr
    obtain ⟨h1, h2⟩ := List.pairwise_cons.1 hr
    rw [List.map_cons, cutV_cons]
    unfold sinceX
    by_cases h : x.ver.stamp ≤ t
    · rw [if_pos h, List.drop_succ_cons, ← sinceX_drop l t h2, List.filter_cons_of_neg (by have h' : x.stamp ≤ t := h; simpa using h')]
      rfl
    · rw [if_neg h, List.drop_zero]
      refine List.filter_eq_self.2 fun y hy => ?_
      rcases List.mem_cons.1 hy with rfl | hy
      · have h' : ¬ y.stamp ≤ t := h
        simpa using h'
      · have := h1 y.ver (List.mem_map.2 ⟨y, hy, rfl⟩)
        have h' : t < x.ver.stamp := Int.not_le.1 h
        have e : y.ver.stamp = y.stamp := rfl
        simp only [decide_eq_true_eq]
        omega

set_option maxHeartbeats 4000000 in
set_option maxRecDepth 100000 in
theorem rsince_any (g gone : Nat) (d : List Vx) (vs : Value) (t : Int) (w : World) (hC : RefC w g d gone vs) :
    Calls Try.prog 31 #[.pointer (some ⟨g, 0, none⟩), .int .u64 t] w fun e w' => ∃ u, e = .returned u ∧ KV.Own w.heap.size w' u (sinceX (d.drop gone) t) ∧ Below w.heap.size w w' := by
  obtain ⟨i0, hi0, hz0, hz1, hz2⟩ := info_parts Try.infoVer
  have HI := hid hi0
  obtain ⟨c0, c1, _, _, his, _, hle, hfew, _⟩ := hC
  obtain ⟨p, cap, rfl, hd⟩ := his
  have HD := hid hd
  have HG : Hid (∀ W, Below w.heap.size w W → W.cell? ⟨g, 0, none⟩ = some (.slice p d.length cap)) := fun W hW => (hW.cell (p := ⟨g, 0, none⟩) (cell_block c0)).trans c0
  clear hd hi0
  go_enter Try.func31, Try.ntmps31
  go_wp2_with fail
  clear c0 c1
  go_loopg [5, 6] d.length (fun gg vs vi wr => ∃ i : Nat, vi = .int .i64 i ∧ gone ≤ i ∧ i ≤ d.length ∧ d.length - i ≤ gg ∧ Hid (Below w.heap.size w wr) ∧ Hid (KV.Own w.heap.size wr vs (sinceX ((d.take i).drop gone) t)))
  case atStart => exact ⟨gone, rfl, Nat.le_refl _, hle, by omega, Below.refl _ _, by
    show KV.Own _ _ _ _
    rw [List.drop_eq_nil_of_le (by rw [List.length_take]; omega)]
    exact World.ownsRow_nil _ _ _ _⟩
  case round =>
    obtain ⟨i, rfl, hg1, hi, hgk, HB, HO⟩ := hrel
    have c0 := HG.out wr HB.out
    by_cases hlt : i < d.length
    · have hltz : (i : Int) < (d.length : Int) := by omega
      have hiz : (0 : Int) ≤ (i : Int) := by omega
      obtain ⟨b1, o1, rfl, k1⟩ : ∃ b off, p = some ⟨b, off, none⟩ ∧ KV.At w b off d := by
        rcases HD.out with h | h
        · rw [h] at hlt; simp at hlt
        · exact h
      obtain ⟨y0, y1, y2, y3, y4⟩ := kv_at (Kind.at_kept k1 HB.out) i hlt
      have hst : sinceX ((d.take (i + 1)).drop gone) t = sinceX ((d.take i).drop gone) t ++ (if t < (d[i]).stamp then [d[i]] else []) := by
        rw [List.take_succ_eq_append_getElem hlt, List.drop_append_of_le_length (by rw [List.length_take]; omega)]
        unfold sinceX
        rw [List.filter_append]
        by_cases h : t < (d[i]).stamp
        · rw [if_pos h]; simp [h]
        · rw [if_neg h]; simp [h]
      have hal : (sinceX ((d.take i).drop gone) t).length ≤ 2400000000000 := by
        unfold sinceX
        refine Nat.le_trans (List.length_filter_le _ _) ?_
        rw [List.length_drop, List.length_take]; omega
      obtain ⟨L, hL⟩ : ∃ L, sinceX ((d.take i).drop gone) t = L := ⟨_, rfl⟩
      rw [hL] at HO hst hal
      have HST := hid hst
      obtain ⟨x, hx⟩ : ∃ x, d[i] = x := ⟨_, rfl⟩
      rw [hx] at y0 y1 y2 y3 y4 HST
      have HN := hid (KV.news wr x)
      obtain ⟨xn, xs, xt, xl, xp, xc, xo⟩ := x
      simp only [Vx.sl] at y0 y1 y2 y3 y4 HST
      have hsz := HB.out.size
      clear k1 hst hL hx
      by_cases hs : t < xs
      · rw [if_pos hs] at HST
        go_wp2_with (first
          | (at_builtin; refine wpList_append_own _ rfl _ _ 27 rfl w.heap.size 41 i0 (.agg #[.int .i64 0, .int .u64 0, .int .i64 0, .bool false, .slice none 0 0]) 5 56 Try.underlying27 HI.out hz0 hz1 hz2 rfl (by decide) _ _ _ rfl (World.ownsRow.alloc HO.out _) _ 1 1 [.int .i64 xn, .int .u64 xs, .int .i64 xt, .bool xl, .slice xp xo.length xc] rfl rfl HN.out (by intro u hu; simp at hu; rcases hu with rfl | rfl | rfl | rfl | rfl <;> rfl) (by unfold maxLen; omega) (by omega) (by simp; omega) ?_; intro v4 w4 hown4 hg4 hnil4; have HO4 := hid hown4; have HG4 := hid hg4; clear hown4 hg4 hnil4))
        go_roundg (d.length - (i + 1))
        case measure => omega
        refine ⟨i + 1, by go_num, by omega, by omega, by omega, ?_, ?_⟩
        · exact (HB.out.alloc hsz _).grown HG4.out (by simp; omega) (fun k hk => (World.ownsRow.lt HO.out k hk).1)
        · rw [HST.out]
          exact Kind.own_snoc HO4.out rfl rfl
      · rw [if_neg hs, List.append_nil] at HST
        go_wp2_with fail
        go_roundg (d.length - (i + 1))
        case measure => omega
        refine ⟨i + 1, by go_num, by omega, by omega, by omega, HB.out, ?_⟩
        rw [HST.out]
        exact HO.out
    · have hltz : ¬ (i : Int) < (d.length : Int) := by omega
      have hti : d.take i = d := List.take_of_length_le (by omega)
      rw [hti] at HO
      clear hti
      go_wp2_with fail
      go_ret
      exact ⟨_, rfl, HO.out, HB.out⟩

end Go.Proofs.Ytipbdpjnabeilaa

/-
  The reference's chain (stage 6): Last, All.
-/
namespace Go.Proofs.Ytipbdpjnabeilaa
open Go.RowKit

theorem grown_below {w W : World} (hb : Below w.heap.size w W) (ob : Option Nat) : w.grownBy W ob := ⟨hb.os, hb.tape, hb.output, hb.size, fun k hk _ => hb.block k hk⟩

theorem grown_two {w1 w2 w3 : World} {ob : Option Nat} (h : w1.grownBy w2 ob) (k : w2.grownBy w3 ob) : w1.grownBy w3 ob :=
  ⟨k.os.trans h.os, k.tape.trans h.tape, k.output.trans h.output, Nat.le_trans h.size k.size, fun j hj hn => (k.block j (Nat.lt_of_lt_of_le hj h.size) hn).trans (h.block j hj hn)⟩

theorem RefC.on {w W : World} {g gone : Nat} {d : List Vx} {vs : Value} (h : RefC w g d gone vs) (hb : Below w.heap.size w W) : RefC W g d gone vs := by
  have hlt : g < w.heap.size := cell_block h.put
  refine ⟨(hb.cell (p := ⟨g, 0, none⟩) hlt).trans h.put, (hb.cell (p := ⟨g, 1, none⟩) hlt).trans h.gn, ?_, ?_, Kind.is_kept h.is hb, fun x hx => ⟨(h.each x hx).1.kept hb, (h.each x hx).2⟩, h.le, h.few, fun W2 h2 => h.far W2 (grown_two (grown_below hb _) h2)⟩
  · have := h.f0
    unfold World.frozen? at this ⊢
    rw [hb.block g hlt]
    exact this
  · have := h.f1
    unfold World.frozen? at this ⊢
    rw [hb.block g hlt]
    exact this

set_option maxHeartbeats 4000000 in
set_option maxRecDepth 100000 in
theorem rlast_any (g gone : Nat) (d : List Vx) (vs : Value) (w : World) (hC : RefC w g d gone vs) :
    Calls Try.prog 30 #[.pointer (some ⟨g, 0, none⟩)] w fun e w' => NumPost w d gone d.length e w' := by
  have HB0 : Hid (Below w.heap.size w (w.alloc (.cells #[.int .i64 0, .int .u64 0, .int .i64 0, .bool false, .slice none 0 0] 41))) := (Below.refl _ _).alloc (Nat.le_refl _) _
  have HN := hid (rnum_any g gone d vs d.length _ (hC.on HB0.out))
  obtain ⟨p, cap, rfl, _⟩ := hC.is
  have z0 := cell_kept (.cells #[.int .i64 0, .int .u64 0, .int .i64 0, .bool false, .slice none 0 0] 41) hC.put
  clear hC
  go_enter Try.func30, Try.ntmps30
  go_wp2_with fail
  refine HN.out.mono ?_
  rintro e w1 ⟨⟨x, b, rfl, hx⟩, hq⟩
  have hlt : w.heap.size < (w.alloc (.cells #[.int .i64 0, .int .u64 0, .int .i64 0, .bool false, .slice none 0 0] 41)).heap.size := by simp
  have hfz : ∀ k, w1.frozen? ⟨w.heap.size, k, none⟩ = false := fun k => by
    unfold World.frozen?
    rw [hq.block w.heap.size hlt, heap_alloc_new]
    rfl
  have q0 : w1.cell? ⟨w.heap.size, 0, none⟩ = some (.int .i64 0) := (hq.cell (p := ⟨w.heap.size, 0, none⟩) hlt).trans (by simp [go_sem])
  have q1 : w1.cell? ⟨w.heap.size, 1, none⟩ = some (.int .u64 0) := (hq.cell (p := ⟨w.heap.size, 1, none⟩) hlt).trans (by simp [go_sem])
  have q2 : w1.cell? ⟨w.heap.size, 2, none⟩ = some (.int .i64 0) := (hq.cell (p := ⟨w.heap.size, 2, none⟩) hlt).trans (by simp [go_sem])
  have q3 : w1.cell? ⟨w.heap.size, 3, none⟩ = some (.bool false) := (hq.cell (p := ⟨w.heap.size, 3, none⟩) hlt).trans (by simp [go_sem])
  have q4 : w1.cell? ⟨w.heap.size, 4, none⟩ = some (.slice none 0 0) := (hq.cell (p := ⟨w.heap.size, 4, none⟩) hlt).trans (by simp [go_sem])
  have r0 := hfz 0
  have r1 := hfz 1
  have r2 := hfz 2
  have r3 := hfz 3
  have r4 := hfz 4
  have HX := hid hx
  have HB1 := hid (bel_then HB0.out HB0.out.size hq)
  obtain ⟨xn, xs, xt, xl, xp, xc, xo⟩ := x
  simp only [encVx, Vx.sl]
  clear hfz hlt hq hx z0
  go_wp2_with fail
  exact bodyPost_ret (v := .tuple #[.agg #[.int .i64 xn, .int .u64 xs, .int .i64 xt, .bool xl, .slice xp xo.length xc], .bool b]) (by simp [results, Try.results30, go_sem, q0, q1, q2, q3, q4]) rfl
    ⟨⟨_, b, rfl, HX.out⟩, ((((HB1.out.setCell (Nat.le_refl _) _).setCell (Nat.le_refl _) _).setCell (Nat.le_refl _) _).setCell (Nat.le_refl _) _).setCell (Nat.le_refl _) _⟩

theorem kv_drop {w : World} {b off : Nat} {d : List Vx} (m : Nat) (h : KV.At w b off d) : KV.At w b (off + m * 5) (d.drop m) := fun i hi j u hu => by
  rw [List.length_drop] at hi
  have hu' : (KV.enc (d[m + i]'(by omega)))[j]? = some u := by rw [List.getElem_drop] at hu; exact hu
  have := h (m + i) (by omega) j u hu'
  have e : off + (m + i) * KV.k + j = off + m * 5 + i * KV.k + j := by rw [Nat.add_mul]; show off + (m * 5 + i * 5) + j = _; show _ = off + m * 5 + i * 5 + j; omega
  rwa [e] at this

set_option maxHeartbeats 4000000 in
set_option maxRecDepth 100000 in
theorem rall_any (g gone cap : Nat) (p : Option Addr) (d : List Vx) (w : World) (hC : RefC w g d gone (.slice p d.length cap)) (hcap : d.length ≤ cap) (hg : (d = [] ∧ p = none ∧ cap = 0 ∧ gone = 0) ∨ gone < d.length) :
    Calls Try.prog 14 #[.pointer (some ⟨g, 0, none⟩)] w fun e w' => ∃ u, e = .returned u ∧ KV.Is w u (d.drop gone) ∧ ∃ n, w' = w.drewN n := by
  have c0 := hC.put
  have c1 := hC.gn
  rcases hg with ⟨rfl, rfl, rfl, rfl⟩ | hg
  · clear hC hcap
    go_enter Try.func14, Try.ntmps14
    go_wp2_with fail
    go_quiet (fail)
    go_wp2_with fail
    go_ret
    exact ⟨_, rfl, ⟨_, _, rfl, Or.inl rfl⟩, _, rfl⟩
  · obtain ⟨b, off, rfl, hat⟩ : ∃ b off, p = some ⟨b, off, none⟩ ∧ KV.At w b off d := by
      obtain ⟨p', c', he, h⟩ := hC.is
      injection he with e1 _ _
      subst e1
      rcases h with h | h
      · rw [h] at hg; simp at hg
      · exact h
    have HI : Hid (KV.Is w (.slice (some ⟨b, off + gone * 5, none⟩) (d.length - gone) (cap - gone)) (d.drop gone)) := ⟨_, _, by rw [List.length_drop], Or.inr ⟨_, _, rfl, kv_drop gone hat⟩⟩
    have h1 : (0 : Int) ≤ (gone : Int) := by omega
    have h2 : (gone : Int) ≤ (d.length : Int) := by omega
    have h3 : (d.length : Int) ≤ (cap : Int) := by omega
    have h4 : (gone : Int) ≤ (cap : Int) := by omega
    have h5 : ¬ cap = gone := by omega
    clear hC hat hcap hg
    go_enter Try.func14, Try.ntmps14
    go_wp2_with fail
    go_quiet (fail)
    go_wp2_with fail
    go_ret
    exact ⟨_, rfl, HI.out, _, rfl⟩

theorem ansX_num {d : List Vx} {gone : Nat} {t : Int} {x : Vx} (hn : ∀ k, (h : k < d.length) → (d[k]).num = (k : Int) + 1) (hle : gone ≤ d.length) (h : AnsX (d.drop gone) t x true) :
    cutV ((d.drop gone).map Vx.ver) t ≠ 0 ∧ gone + cutV ((d.drop gone).map Vx.ver) t ≤ d.length ∧ x.num = (gone : Int) + cutV ((d.drop gone).map Vx.ver) t := by
  rcases h with ⟨_, h1, h2⟩ | ⟨h, _⟩
  · have hc := cutV_le ((d.drop gone).map Vx.ver) t
    rw [List.length_map, List.length_drop] at hc
    rw [List.getElem?_drop] at h2
    obtain ⟨hlt, he⟩ := List.getElem?_eq_some_iff.1 h2
    refine ⟨h1, by omega, ?_⟩
    rw [← he, hn _ hlt]
    omega
  · cases h

theorem RefC.set {w : World} {g gone : Nat} {d : List Vx} {vs : Value} (h : RefC w g d gone vs) (m : Nat) (hm : m ≤ d.length) : RefC (w.setCell ⟨g, 1, none⟩ (.int .i64 m)) g d m vs := by
  have hg : w.grownBy (w.setCell ⟨g, 1, none⟩ (.int .i64 m)) (some g) := grown_set w g 1 _
  have c0 := h.put
  have c1 := h.gn
  have f0 := h.f0
  have f1 := h.f1
  refine ⟨by simp [go_sem, c0], by simp [go_sem, c1], by simp [go_sem, f0], by simp [go_sem, f1], (h.far _ hg).1, fun x hx => ⟨(h.far _ hg).2 x hx, (h.each x hx).2⟩, hm, h.few, fun W2 h2 => h.far W2 (grown_two hg h2)⟩

/-- What Prune leaves. -/
def PrunePost (w : World) (g : Nat) (d : List Vx) (gone : Nat) (vs : Value) (f : Int) (e : Ending) (w' : World) : Prop :=
  ∃ n : Nat, e = .returned (.int .i64 n) ∧ n = pruneN ((d.drop gone).map Vx.ver) f ∧ RefC w' g d (gone + n) vs ∧ w.grownBy w' (some g)

set_option maxHeartbeats 4000000 in
set_option maxRecDepth 100000 in
theorem rprune_any (g gone : Nat) (d : List Vx) (vs : Value) (f : Int) (w : World) (hC : RefC w g d gone vs) (hr : RiseV (d.map Vx.ver)) (hn : ∀ k, (h : k < d.length) → (d[k]).num = (k : Int) + 1) :
    Calls Try.prog 32 #[.pointer (some ⟨g, 0, none⟩), .int .u64 f] w fun e w' => PrunePost w g d gone vs f e w' := by
  have HA := hid (rat_any g gone d vs f w hC hr)
  have HC := hid hC
  have HN := hid hn
  have hle := hC.le
  have hfew := hC.few
  clear hC hr hn
  go_enter Try.func32, Try.ntmps32
  go_wp2_with fail
  refine HA.out.mono ?_
  rintro e w1 ⟨⟨x, b, rfl, hx⟩, hq⟩
  have HQ := hid hq
  have HX := hid hx
  have HB1 : Hid (Below w.heap.size w (w1.alloc (.cells (encVx x).toArray 41))) := hq.alloc hq.size _
  have HCW := hid (HC.out.on HB1.out)
  obtain ⟨xn, xs, xt, xl, xp, xc, xo⟩ := x
  simp only [encVx, Vx.sl] at HB1 HCW ⊢
  clear hq hx HA
  cases b with
  | false =>
    have HP : Hid (pruneN ((d.drop gone).map Vx.ver) f = 0) := by
      rcases HX.out with ⟨h, _⟩ | ⟨_, h, _⟩
      · cases h
      · show _ = _; unfold pruneN; rw [h]
    go_wp2_with fail
    go_ret
    exact ⟨0, rfl, HP.out.symm, HCW.out, grown_below HB1.out _⟩
  | true =>
    obtain ⟨h1, h2, h3⟩ := ansX_num HN.out hle HX.out
    have h3' : xn = (gone : Int) + cutV ((d.drop gone).map Vx.ver) f := h3
    obtain ⟨c, hc⟩ : ∃ c, cutV ((d.drop gone).map Vx.ver) f = c := ⟨_, rfl⟩
    have HP : Hid (pruneN ((d.drop gone).map Vx.ver) f = c - 1) := by show _ = _; unfold pruneN; rw [hc]
    rw [hc] at h1 h2 h3'
    obtain ⟨c, rfl⟩ : ∃ c', c = c' + 1 := ⟨c - 1, by omega⟩
    have e1 : xn = (gone : Int) + c + 1 := by omega
    subst e1
    have z0 := HCW.out.gn
    have z1 := HCW.out.f1
    have HSET := hid (fun n => (HCW.out.on (bel_drewN (Below.refl _ _) n)).set (gone + c) (by omega))
    rw [Int.natCast_add] at HSET
    have HGR := hid (fun n => grown_two (grown_below (bel_drewN HB1.out n) (some g)) (grown_set ((w1.alloc (.cells #[.int .i64 ((gone : Int) + c + 1), .int .u64 xs, .int .i64 xt, .bool xl, .slice xp xo.length xc] 41)).drewN n) g 1 (.int .i64 ((gone : Int) + c))))
    have e2 : (gone : Int) + c + 1 - 1 = ((gone + c : Nat) : Int) := by omega
    have HE2 := hid e2
    clear h1 h3 h3' hc e2
    go_wp2_with fail
    go_quiet (fail)
    go_wp2_with fail
    go_ret
    refine ⟨c, ?_, by rw [HP.out]; omega, HSET.out _, HGR.out _⟩
    show Ending.returned (.int .i64 ((gone : Int) + c - gone)) = _
    rw [show (gone : Int) + c - gone = c by omega]

end Go.Proofs.Ytipbdpjnabeilaa

/-
  The plain mathematics of a stable sort: parts that change places, and equals that keep their order.
-/
namespace Go.Proofs.Ytipbdpjnabeilaa
open Go.Sort
set_option linter.unusedSectionVars false
variable {α : Type} [Inhabited α] {κ : Type} [DecidableEq κ]

/-- Equals keep their order. -/
def Stab (K : α → κ) (d d' : Array α) : Prop := ∀ c, d'.toList.filter (fun x => decide (K x = c)) = d.toList.filter (fun x => decide (K x = c))

theorem Stab.refl (K : α → κ) (d : Array α) : Stab K d d := fun _ => rfl
theorem Stab.trans {K : α → κ} {d d' d'' : Array α} (h : Stab K d d') (h' : Stab K d' d'') : Stab K d d'' := fun c => (h' c).trans (h c)

/-- The parts s to m and m to e have changed places. -/
def Rot (s m e : Nat) (d d' : Array α) : Prop :=
  d'.size = d.size ∧ (∀ t, t < e - m → d'[s + t]! = d[m + t]!) ∧ (∀ t, t < m - s → d'[s + (e - m) + t]! = d[s + t]!) ∧ (∀ i, i < s ∨ e ≤ i → d'[i]! = d[i]!)

theorem toList_range (d : Array α) : d.toList = (List.range' 0 d.size).map (fun i => d[i]!) := by
  have h := extract_toList d 0 d.size (Nat.le_refl _)
  rw [Array.extract_size, Nat.sub_zero] at h
  exact h

theorem range'_cut (s k l : Nat) : List.range' s (k + l) = List.range' s k ++ List.range' (s + k) l := by
  rw [← List.range'_append_1]

theorem map_range'_shift (f g : Nat → α) (s s' n : Nat) (h : ∀ t, t < n → f (s + t) = g (s' + t)) : (List.range' s n).map f = (List.range' s' n).map g := by
  apply List.ext_getElem
  · simp
  · intro i h1 h2
    simp only [List.length_map, List.length_range'] at h1
    simp only [List.getElem_map, List.getElem_range', Nat.one_mul]
    exact h i h1

theorem Rot.parts {s m e : Nat} {d d' : Array α} (h : Rot s m e d d') (hsm : s ≤ m) (hme : m ≤ e) (he : e ≤ d.size) :
    ∃ A L R B : List α, d.toList = A ++ L ++ R ++ B ∧ d'.toList = A ++ R ++ L ++ B ∧ L = (List.range' s (m - s)).map (fun i => d[i]!) ∧ R = (List.range' m (e - m)).map (fun i => d[i]!) := by
  obtain ⟨hz, h1, h2, h3⟩ := h
  refine ⟨(List.range' 0 s).map (fun i => d[i]!), _, _, (List.range' e (d.size - e)).map (fun i => d[i]!), ?_, ?_, rfl, rfl⟩
  · rw [toList_range]
    have e1 : d.size = s + (m - s) + (e - m) + (d.size - e) := by omega
    conv => lhs; rw [e1]
    rw [range'_cut, range'_cut, range'_cut]
    simp only [List.map_append]
    rw [show 0 + s = s by omega, show 0 + (s + (m - s)) = m by omega, show 0 + (s + (m - s) + (e - m)) = e by omega]
  · rw [toList_range, hz]
    have e1 : d.size = s + (e - m) + (m - s) + (d.size - e) := by omega
    conv => lhs; rw [e1]
    rw [range'_cut, range'_cut, range'_cut]
    simp only [List.map_append]
    rw [show 0 + s = s by omega, show 0 + (s + (e - m)) = s + (e - m) by omega, show 0 + (s + (e - m) + (m - s)) = e by omega]
    congr 1
    · congr 1
      · congr 1
        · exact map_range'_shift _ _ 0 0 s (fun t ht => h3 _ (Or.inl (by omega)))
        · exact map_range'_shift _ _ _ _ _ (fun t ht => h1 t ht)
      · exact map_range'_shift _ _ _ _ _ (fun t ht => h2 t ht)
    · exact map_range'_shift _ _ _ _ _ (fun t ht => h3 _ (Or.inr (by omega)))

theorem Rot.stab {K : α → κ} {s m e : Nat} {d d' : Array α} (h : Rot s m e d d') (hsm : s ≤ m) (hme : m ≤ e) (he : e ≤ d.size)
    (hK : ∀ i j, s ≤ i → i < m → m ≤ j → j < e → K d[i]! ≠ K d[j]!) : Stab K d d' := by
  obtain ⟨A, L, R, B, e1, e2, hL, hR⟩ := h.parts hsm hme he
  intro c
  rw [e1, e2]
  simp only [List.filter_append]
  have : L.filter (fun x => decide (K x = c)) = [] ∨ R.filter (fun x => decide (K x = c)) = [] := by
    rcases hl : L.filter (fun x => decide (K x = c)) with _ | ⟨x, l⟩
    · exact Or.inl rfl
    · right
      have hx : x ∈ L.filter (fun x => decide (K x = c)) := by rw [hl]; simp
      rw [List.filter_eq_nil_iff]
      intro y hy hyc
      simp only [decide_eq_true_eq] at hyc
      obtain ⟨hx1, hx2⟩ := List.mem_filter.1 hx
      simp only [decide_eq_true_eq] at hx2
      rw [hL, List.mem_map] at hx1
      rw [hR, List.mem_map] at hy
      obtain ⟨i, hi, rfl⟩ := hx1
      obtain ⟨j, hj, rfl⟩ := hy
      rw [List.mem_range'_1] at hi hj
      exact hK i j (by omega) (by omega) (by omega) (by omega) (hx2.trans hyc.symm)
  rcases this with h0 | h0 <;> rw [h0] <;> simp

theorem Rot.perm {s m e : Nat} {d d' : Array α} (h : Rot s m e d d') (hsm : s ≤ m) (hme : m ≤ e) (he : e ≤ d.size) : PermIn s e d d' := by
  obtain ⟨hz, h1, h2, h3⟩ := h
  refine ⟨hz, h3, ?_⟩
  rw [extract_toList _ _ _ (by omega), extract_toList _ _ _ he]
  have e1 : e - s = (m - s) + (e - m) := by omega
  have e2 : e - s = (e - m) + (m - s) := by omega
  conv => lhs; rw [e2]
  conv => rhs; rw [e1]
  rw [range'_cut, range'_cut]
  simp only [List.map_append]
  rw [map_range'_shift (fun i => d'[i]!) (fun i => d[i]!) s m (e - m) (fun t ht => h1 t ht), map_range'_shift (fun i => d'[i]!) (fun i => d[i]!) (s + (e - m)) s (m - s) (fun t ht => h2 t ht), show s + (m - s) = m by omega]
  exact List.perm_append_comm

/-- An exchange of neighbours is such a change of places. -/
theorem rot_swp (d : Array α) (j : Nat) (h : j + 1 < d.size) : Rot j (j + 1) (j + 2) d (swp d (j + 1) j) := by
  refine ⟨size_swp _ _ _, fun t ht => ?_, fun t ht => ?_, fun i hi => ?_⟩
  · obtain rfl : t = 0 := by omega
    exact swp_right d (j + 1) j (by omega)
  · obtain rfl : t = 0 := by omega
    rw [show j + (j + 2 - (j + 1)) + 0 = j + 1 by omega]
    exact swp_left d (j + 1) j h (by omega)
  · exact swp_other d (j + 1) j i (by omega) (by omega)

theorem swp_comm (d : Array α) (i j : Nat) : swp d i j = swp d j i := by
  rcases Nat.lt_trichotomy i j with h | h | h
  · unfold swp; rw [Array.setIfInBounds_comm _ _ (by omega)]
  · rw [h]
  · unfold swp; rw [Array.setIfInBounds_comm _ _ (by omega)]

/-- The insertion sort keeps the order of equals. -/
theorem insInner_stab {K : α → κ} {lt : α → α → Bool} (hK : ∀ x y, lt x y = true → K x ≠ K y) (a : Nat) : ∀ (j : Nat) (d : Array α), j < d.size → Stab K d (insInner lt a j d)
  | 0, d, _ => Stab.refl K d
  | j + 1, d, hj => by
    unfold insInner
    split
    · rename_i hc
      simp only [Bool.and_eq_true, decide_eq_true_eq] at hc
      refine Stab.trans ((rot_swp d j hj).stab (by omega) (by omega) (by omega) fun i i' h1 h2 h3 h4 => ?_) (insInner_stab hK a j _ (by rw [size_swp]; omega))
      obtain rfl : i = j := by omega
      obtain rfl : i' = i + 1 := by omega
      exact fun e => hK _ _ hc.2 e.symm
    · exact Stab.refl K d

theorem insInner_size {lt : α → α → Bool} (a : Nat) : ∀ (j : Nat) (d : Array α), (insInner lt a j d).size = d.size
  | 0, d => rfl
  | j + 1, d => by
    unfold insInner
    split
    · rw [insInner_size a j, size_swp]
    · rfl

theorem insOuter_stab {K : α → κ} {lt : α → α → Bool} (hK : ∀ x y, lt x y = true → K x ≠ K y) (a b : Nat) : ∀ (n i : Nat) (d : Array α), b - i ≤ n → b ≤ d.size → Stab K d (insOuter lt a b i d)
  | 0, i, d, hn, hb => by
    unfold insOuter
    rw [if_neg (by omega)]
    exact Stab.refl K d
  | n + 1, i, d, hn, hb => by
    unfold insOuter
    split
    · exact (insInner_stab hK a i d (by omega)).trans (insOuter_stab hK a b n (i + 1) _ (by omega) (by rw [insInner_size]; exact hb))
    · exact Stab.refl K d

theorem insertionSort_stab {K : α → κ} {lt : α → α → Bool} (hK : ∀ x y, lt x y = true → K x ≠ K y) (d : Array α) (a b : Nat) (hb : b ≤ d.size) : Stab K d (insertionSort lt d a b) :=
  insOuter_stab hK a b _ _ d (Nat.le_refl _) hb

/-- One step of the rotation, the left part longer. -/
theorem Rot.left {s m e j : Nat} {d dk d' : Array α} (hsm : s ≤ m) (hme : m ≤ e) (hj : j = e - m) (hij : j ≤ m - s) (hz : dk.size = d.size) (h1 : ∀ t, t < j → dk[s + t]! = d[m + t]!) (h2 : ∀ t, t < j → dk[m + t]! = d[s + t]!)
    (h3 : ∀ i, (i < s ∨ s + j ≤ i) → (i < m ∨ m + j ≤ i) → dk[i]! = d[i]!) (h : Rot (s + j) m e dk d') : Rot s m e d d' := by
  obtain ⟨k1, k2, k3, k4⟩ := h
  refine ⟨k1.trans hz, fun t ht => ?_, fun t ht => ?_, fun i hi => ?_⟩
  · rw [k4 _ (Or.inl (by omega))]; exact h1 t (by omega)
  · by_cases hlt : t < j
    · have := k2 t (by omega)
      rw [show s + (e - m) + t = s + j + t by omega, this]
      exact h2 t hlt
    · have := k3 (t - j) (by omega)
      rw [show s + (e - m) + t = s + j + (e - m) + (t - j) by omega, this, h3 _ (by omega) (by omega)]
      congr 1; omega
  · rw [k4 _ (by omega), h3 _ (by omega) (by omega)]

/-- One step of the rotation, the right part longer. -/
theorem Rot.right {s m e i : Nat} {d dk d' : Array α} (hsm : s ≤ m) (hme : m ≤ e) (hi : i = m - s) (hij : i ≤ e - m) (hz : dk.size = d.size) (h1 : ∀ t, t < i → dk[s + t]! = d[e - i + t]!) (h2 : ∀ t, t < i → dk[e - i + t]! = d[s + t]!)
    (h3 : ∀ x, (x < s ∨ s + i ≤ x) → (x < e - i ∨ e ≤ x) → dk[x]! = d[x]!) (h : Rot s m (e - i) dk d') : Rot s m e d d' := by
  obtain ⟨k1, k2, k3, k4⟩ := h
  refine ⟨k1.trans hz, fun t ht => ?_, fun t ht => ?_, fun x hx => ?_⟩
  · by_cases hlt : t < e - i - m
    · rw [k2 t hlt, h3 _ (by omega) (by omega)]
    · have := k3 (t - (e - i - m)) (by omega)
      rw [show s + t = s + (e - i - m) + (t - (e - i - m)) by omega, this, h1 _ (by omega)]
      congr 1; omega
  · rw [k4 _ (by omega), show s + (e - m) + t = e - i + t by omega]
    exact h2 t (by omega)
  · rw [k4 _ (by omega), h3 _ (by omega) (by omega)]

/-- The rotation's last step: both parts are as long. -/
theorem Rot.even {s m e i : Nat} {d d' : Array α} (hi : i = m - s) (hsm : s ≤ m) (hme : m ≤ e) (hij : i = e - m) (hz : d'.size = d.size) (h1 : ∀ t, t < i → d'[s + t]! = d[m + t]!) (h2 : ∀ t, t < i → d'[m + t]! = d[s + t]!)
    (h3 : ∀ x, (x < s ∨ s + i ≤ x) → (x < m ∨ m + i ≤ x) → d'[x]! = d[x]!) : Rot s m e d d' :=
  ⟨hz, fun t ht => h1 t (by omega), fun t ht => by rw [show s + (e - m) + t = m + t by omega]; exact h2 t (by omega), fun x hx => h3 x (by omega) (by omega)⟩

end Go.Proofs.Ytipbdpjnabeilaa

/-
  The plain mathematics of a symmetric merge.
-/
namespace Go.Proofs.Ytipbdpjnabeilaa
open Go.Sort
set_option linter.unusedSectionVars false
variable {α : Type} [Inhabited α] {κ : Type} [DecidableEq κ]

/-- What a merge of the part a to b leaves. -/
def Mrg (lt : α → α → Bool) (K : α → κ) (a b : Nat) (d d' : Array α) : Prop := PermIn a b d d' ∧ SortedIn lt a b d' ∧ Stab K d d'

theorem SWO.le_le {lt : α → α → Bool} (hS : SWO lt) {x y z : α} (h1 : lt y x = false) (h2 : lt z y = false) : lt z x = false := hS.ntrans _ _ _ h2 h1

theorem SWO.lt_le {lt : α → α → Bool} (hS : SWO lt) {x y z : α} (h1 : lt x y = true) (h2 : lt z y = false) : lt x z = true := by
  cases h : lt x z
  · exact absurd (hS.ntrans _ _ _ h h2) (by rw [h1]; simp)
  · rfl

theorem SWO.le_lt {lt : α → α → Bool} (hS : SWO lt) {x y z : α} (h1 : lt y x = false) (h2 : lt y z = true) : lt x z = true := by
  cases h : lt x z
  · exact absurd (hS.ntrans _ _ _ h1 h) (by rw [h2]; simp)
  · rfl

theorem SortedIn.le {lt : α → α → Bool} (hS : SWO lt) {a b : Nat} {d : Array α} (h : SortedIn lt a b d) {i j : Nat} (h1 : a ≤ i) (h2 : i ≤ j) (h3 : j < b) : lt d[j]! d[i]! = false := by
  rcases Nat.eq_or_lt_of_le h2 with rfl | h4
  · exact hS.irrefl _
  · exact h i j h1 h4 h3

/-- One step of the first shift: the element of place a has come to place k. -/
theorem Rot.shift_up {a k : Nat} {d dk : Array α} (h : Rot a (a + 1) (k + 1) d dk) (hak : a ≤ k) (hk : k + 1 < d.size) : Rot a (a + 1) (k + 2) d (swp dk k (k + 1)) := by
  obtain ⟨h1, h2, h3, h4⟩ := h
  refine ⟨by rw [size_swp, h1], fun t ht => ?_, fun t ht => ?_, fun i hi => ?_⟩
  · by_cases hlt : t < k + 1 - (a + 1)
    · rw [swp_other _ _ _ _ (by omega) (by omega)]; exact h2 t hlt
    · rw [show a + t = k by omega, swp_left _ _ _ (by omega) (by omega), h4 _ (Or.inr (by omega))]; congr 1; omega
  · obtain rfl : t = 0 := by omega
    rw [show a + (k + 2 - (a + 1)) + 0 = k + 1 by omega, swp_right _ _ _ (by omega)]
    have := h3 0 (by omega)
    rw [show a + (k + 1 - (a + 1)) + 0 = k by omega] at this
    exact this
  · rw [swp_other _ _ _ _ (by omega) (by omega)]; exact h4 _ (by omega)

/-- One step of the second shift: the element of place m has come to place k + 1. -/
theorem Rot.shift_down {k m : Nat} {d dk : Array α} (h : Rot (k + 1) m (m + 1) d dk) (hkm : k + 1 ≤ m) (hm : m < d.size) : Rot k m (m + 1) d (swp dk (k + 1) k) := by
  obtain ⟨h1, h2, h3, h4⟩ := h
  refine ⟨by rw [size_swp, h1], fun t ht => ?_, fun t ht => ?_, fun i hi => ?_⟩
  · obtain rfl : t = 0 := by omega
    show (swp dk (k + 1) k)[k]! = d[m + 0]!
    rw [swp_right _ _ _ (by omega)]
    exact h2 0 (by omega)
  · by_cases h0 : t = 0
    · subst h0
      rw [show k + (m + 1 - m) + 0 = k + 1 by omega, swp_left _ _ _ (by omega) (by omega), h4 _ (Or.inl (by omega)), Nat.add_zero]
    · rw [swp_other _ _ _ _ (by omega) (by omega)]
      have := h3 (t - 1) (by omega)
      rw [show k + 1 + (m + 1 - m) + (t - 1) = k + (m + 1 - m) + t by omega] at this
      rw [this]; congr 1; omega
  · rw [swp_other _ _ _ _ (by omega) (by omega)]; exact h4 _ (by omega)

theorem rot_none (s m : Nat) (d : Array α) : Rot s m m d d := by
  refine ⟨rfl, fun t ht => by omega, fun t _ => by rw [show s + (m - m) + t = s + t by omega], fun _ _ => rfl⟩

theorem rot_none' (m e : Nat) (d : Array α) : Rot m m e d d := by
  refine ⟨rfl, fun t _ => rfl, fun t ht => by omega, fun _ _ => rfl⟩

/-- What the four parts of a rotation hold. -/
theorem Rot.at1 {s m e : Nat} {d d' : Array α} (h : Rot s m e d d') {p : Nat} (h1 : s ≤ p) (h2 : p < s + (e - m)) : d'[p]! = d[p + (m - s)]! ∨ m < s := by
  by_cases hms : m < s
  · exact Or.inr hms
  · left
    have := h.2.1 (p - s) (by omega)
    rw [show s + (p - s) = p by omega] at this
    rw [this]; congr 1; omega

theorem Rot.lo {s m e : Nat} {d d' : Array α} (h : Rot s m e d d') (hsm : s ≤ m) {p : Nat} (h1 : s ≤ p) (h2 : p < s + (e - m)) : d'[p]! = d[p + (m - s)]! := by
  rcases h.at1 h1 h2 with h | h
  · exact h
  · omega

theorem Rot.hi {s m e : Nat} {d d' : Array α} (h : Rot s m e d d') {p : Nat} (h1 : s + (e - m) ≤ p) (h2 : p < e) (hme : m ≤ e) : d'[p]! = d[p - (e - m)]! := by
  have := h.2.2.1 (p - (s + (e - m))) (by omega)
  rw [show s + (e - m) + (p - (s + (e - m))) = p by omega] at this
  rw [this]; congr 1; omega

theorem Rot.out {s m e : Nat} {d d' : Array α} (h : Rot s m e d d') {p : Nat} (h1 : p < s ∨ e ≤ p) : d'[p]! = d[p]! := h.2.2.2 p h1

/-- THE ROTATION OF A SYMMETRIC MERGE: all that lies in the lower half is no greater than what lies in the upper one. -/
theorem Rot.merge {lt : α → α → Bool} {K : α → κ} (hS : SWO lt) (hK : ∀ x y, lt x y = true → K x ≠ K y) {a s m e b : Nat} {d d1 : Array α} (h : Rot s m e d d1) (has : a ≤ s) (hsm : s ≤ m) (hme : m ≤ e) (heb : e ≤ b) (hb : b ≤ d.size)
    (hL : SortedIn lt a m d) (hR : SortedIn lt m b d)
    (hlow : a < s → e < b → lt d[e]! d[s - 1]! = false) (hhigh : s < m → m < e → lt d[e - 1]! d[s]! = true) :
    PermIn a b d d1 ∧ Stab K d d1 ∧ SortedIn lt a s d1 ∧ SortedIn lt s (s + (e - m)) d1 ∧ SortedIn lt (s + (e - m)) e d1 ∧ SortedIn lt e b d1 ∧
      (∀ p q, a ≤ p → p < s + (e - m) → s + (e - m) ≤ q → q < b → lt d1[q]! d1[p]! = false) := by
  have hx : ∀ i j, s ≤ i → i < m → m ≤ j → j < e → lt d[j]! d[i]! = true := fun i j h1 h2 h3 h4 => by
    have t := hhigh (by omega) (by omega)
    exact SWO.lt_le hS (SWO.le_lt hS (SortedIn.le hS hR h3 (show j ≤ e - 1 by omega) (by omega)) t) (SortedIn.le hS hL has h1 h2)
  have hy : ∀ i j, a ≤ i → i < s → e ≤ j → j < b → lt d[j]! d[i]! = false := fun i j h1 h2 h3 h4 => by
    have t := hlow (by omega) (by omega)
    exact SWO.le_le hS (SWO.le_le hS (SortedIn.le hS hL h1 (show i ≤ s - 1 by omega) (by omega)) t) (SortedIn.le hS hR hme h3 h4)
  refine ⟨permIn_mono _ _ _ _ _ _ has heb hb (h.perm hsm hme (by omega)), h.stab hsm hme (by omega) (fun i j h1 h2 h3 h4 e => hK _ _ (hx i j h1 h2 h3 h4) e.symm), fun i j h1 h2 h3 => ?_, fun i j h1 h2 h3 => ?_, fun i j h1 h2 h3 => ?_, fun i j h1 h2 h3 => ?_, fun p q h1 h2 h3 h4 => ?_⟩
  · rw [h.out (Or.inl (by omega)), h.out (Or.inl (by omega))]; exact hL i j h1 h2 (by omega)
  · rw [h.lo hsm (by omega) (by omega), h.lo hsm (by omega) (by omega)]; exact hR _ _ (by omega) (by omega) (by omega)
  · rw [h.hi (by omega) (by omega) hme, h.hi (by omega) (by omega) hme]; exact hL _ _ (by omega) (by omega) (by omega)
  · rw [h.out (Or.inr (by omega)), h.out (Or.inr (by omega))]; exact hR i j (by omega) h2 (by omega)
  · by_cases c1 : p < s
    · rw [h.out (p := p) (Or.inl c1)]
      by_cases c2 : q < e
      · rw [h.hi h3 c2 hme]; exact SortedIn.le hS hL h1 (by omega) (by omega)
      · rw [h.out (Or.inr (by omega))]; exact hy p q h1 c1 (by omega) h4
    · rw [h.lo (p := p) hsm (by omega) h2]
      by_cases c2 : q < e
      · rw [h.hi h3 c2 hme]; exact SWO.asymmA hS (hx _ _ (by omega) (by omega) (by omega) (by omega))
      · rw [h.out (Or.inr (by omega))]; exact SortedIn.le hS hR (by omega) (by omega) h4

/-- THE MERGE IS DONE: both halves are sorted, and nothing in the upper one is less than what is in the lower one. -/
theorem sorted_halves {lt : α → α → Bool} {a c b : Nat} {d1 d2 d3 : Array α} (hac : a ≤ c) (hcb : c ≤ b) (hb : b ≤ d1.size)
    (hX : ∀ p q, a ≤ p → p < c → c ≤ q → q < b → lt d1[q]! d1[p]! = false) (p2 : PermIn a c d1 d2) (s2 : SortedIn lt a c d2) (p3 : PermIn c b d2 d3) (s3 : SortedIn lt c b d3) :
    PermIn a b d1 d3 ∧ SortedIn lt a b d3 := by
  have z2 := p2.1
  have hX2 : ∀ q, c ≤ q → q < b → ∀ p, a ≤ p → p < c → lt d2[q]! d2[p]! = false := fun q h1 h2 => by
    rw [p2.2.1 q (Or.inr h1)]
    exact permIn_all d1 d2 a c (fun x => lt d1[q]! x = false) (by omega) p2 (fun p h3 h4 => hX p q h3 h4 h1 h2)
  have hX3 : ∀ p, a ≤ p → p < c → ∀ q, c ≤ q → q < b → lt d3[q]! d3[p]! = false := fun p h1 h2 => by
    rw [p3.2.1 p (Or.inl h2)]
    exact permIn_all d2 d3 c b (fun x => lt x d2[p]! = false) (by omega) p3 (fun q h3 h4 => hX2 q h3 h4 p h1 h2)
  refine ⟨permIn_trans _ _ _ _ _ (permIn_mono _ _ _ _ _ _ (Nat.le_refl _) hcb hb p2) (permIn_mono _ _ _ _ _ _ hac (Nat.le_refl _) (by omega) p3), fun i j h1 h2 h3 => ?_⟩
  by_cases c1 : i < c
  · by_cases c2 : j < c
    · rw [p3.2.1 i (Or.inl c1), p3.2.1 j (Or.inl c2)]; exact s2 i j h1 h2 c2
    · exact hX3 i h1 c1 j (by omega) h3
  · exact s3 i j (by omega) h2 h3

/-- The whole of a merge's general step. -/
theorem Mrg.of_rot {lt : α → α → Bool} {K : α → κ} (hS : SWO lt) (hK : ∀ x y, lt x y = true → K x ≠ K y) {a s m e b : Nat} {d d1 d2 d3 : Array α} (h : Rot s m e d d1) (has : a ≤ s) (hsm : s ≤ m) (hme : m ≤ e) (heb : e ≤ b) (hb : b ≤ d.size)
    (hL : SortedIn lt a m d) (hR : SortedIn lt m b d) (hlow : a < s → e < b → lt d[e]! d[s - 1]! = false) (hhigh : s < m → m < e → lt d[e - 1]! d[s]! = true)
    (m2 : Mrg lt K a (s + (e - m)) d1 d2) (m3 : Mrg lt K (s + (e - m)) b d2 d3) : Mrg lt K a b d d3 := by
  obtain ⟨p1, st1, _, _, _, _, hX⟩ := h.merge (K := K) hS hK has hsm hme heb hb hL hR hlow hhigh
  obtain ⟨p2, s2, st2⟩ := m2
  obtain ⟨p3, s3, st3⟩ := m3
  obtain ⟨p, s⟩ := sorted_halves (by omega) (by omega) (by rw [h.1]; exact hb) hX p2 s2 p3 s3
  exact ⟨permIn_trans _ _ _ _ _ p1 p, s, st1.trans (st2.trans st3)⟩

/-- A merge of parts one of which is empty, or that lie in order already, changes nothing. -/
theorem Mrg.none {lt : α → α → Bool} {K : α → κ} {a b : Nat} {d : Array α} (h : SortedIn lt a b d) : Mrg lt K a b d d := ⟨permIn_refl _ _ _, h, Stab.refl K d⟩

/-- The first small case: one element on the left. -/
theorem Mrg.one_left {lt : α → α → Bool} {K : α → κ} (hS : SWO lt) (hK : ∀ x y, lt x y = true → K x ≠ K y) {a i b : Nat} {d d' : Array α} (h : Rot a (a + 1) i d d') (hi : a + 1 ≤ i) (hib : i ≤ b) (hb : b ≤ d.size) (hR : SortedIn lt (a + 1) b d)
    (hlo : a + 1 < i → lt d[i - 1]! d[a]! = true) (hhi : i < b → lt d[i]! d[a]! = false) : Mrg lt K a b d d' := by
  have hL : SortedIn lt a (a + 1) d := fun i j h1 h2 h3 => by omega
  obtain ⟨p1, st1, _, s2, _, s4, hX⟩ := h.merge (K := K) hS hK (Nat.le_refl _) (by omega) hi hib hb hL hR (fun h => by omega) (fun _ h => hlo h)
  refine ⟨p1, fun p q h1 h2 h3 => ?_, st1⟩
  have e1 : a + (i - (a + 1)) = i - 1 := by omega
  rw [e1] at s2 hX
  by_cases c1 : p < i - 1
  · by_cases c2 : q < i - 1
    · exact s2 p q h1 h2 c2
    · exact hX p q h1 c1 (by omega) h3
  · by_cases c3 : p = i - 1
    · rw [h.out (p := q) (Or.inr (by omega)), h.hi (p := p) (by omega) (by omega) hi, show p - (i - (a + 1)) = a by omega]
      exact SWO.le_le hS (hhi (by omega)) (SortedIn.le hS hR (by omega) (show i ≤ q by omega) h3)
    · exact s4 p q (by omega) h2 h3

/-- The second small case: one element on the right. -/
theorem Mrg.one_right {lt : α → α → Bool} {K : α → κ} (hS : SWO lt) (hK : ∀ x y, lt x y = true → K x ≠ K y) {a i m : Nat} {d d' : Array α} (h : Rot i m (m + 1) d d') (hai : a ≤ i) (him : i ≤ m) (hb : m + 1 ≤ d.size) (hL : SortedIn lt a m d)
    (hlo : a < i → lt d[m]! d[i - 1]! = false) (hhi : i < m → lt d[m]! d[i]! = true) : Mrg lt K a (m + 1) d d' := by
  have hR : SortedIn lt m (m + 1) d := fun i j h1 h2 h3 => by omega
  obtain ⟨p1, st1, s1, _, s3, _, hX⟩ := h.merge (K := K) hS hK hai him (by omega) (Nat.le_refl _) hb hL hR (fun _ h => by omega) (fun h _ => by rw [show m + 1 - 1 = m by omega]; exact hhi h)
  rw [show i + (m + 1 - m) = i + 1 by omega] at s3 hX
  refine ⟨p1, fun p q h1 h2 h3 => ?_, st1⟩
  by_cases c1 : i + 1 ≤ q
  · by_cases c2 : i + 1 ≤ p
    · exact s3 p q c2 h2 h3
    · exact hX p q h1 (by omega) c1 h3
  · by_cases c3 : q = i
    · rw [h.lo (p := q) him (by omega) (by omega), h.out (p := p) (Or.inl (by omega)), show q + (m - i) = m by omega]
      exact SWO.le_le hS (SortedIn.le hS hL h1 (show p ≤ i - 1 by omega) (by omega)) (hlo (by omega))
    · exact s1 p q h1 h2 (by omega)

end Go.Proofs.Ytipbdpjnabeilaa

/-
  The plain mathematics of the order of texts by their bytes.
-/
namespace Go.Proofs.Ytipbdpjnabeilaa

theorem cb_self (a : List UInt8) : Lib.compareBytes a a = 0 := by
  induction a with
  | nil => rfl
  | cons x a ih => unfold Lib.compareBytes; simp [ih]

theorem cb_zero (a b : List UInt8) : Lib.compareBytes a b = 0 ↔ a = b := by
  constructor
  · induction a generalizing b with
    | nil => cases b with
      | nil => intro _; rfl
      | cons y b => intro h; simp [Lib.compareBytes] at h
    | cons x a ih => cases b with
      | nil => intro h; simp [Lib.compareBytes] at h
      | cons y b =>
        intro h
        unfold Lib.compareBytes at h
        split at h
        · simp at h
        · split at h
          · simp at h
          · rename_i h1 h2
            have : x = y := by
              apply UInt8.toNat_inj.1
              rw [UInt8.lt_iff_toNat_lt] at h1 h2
              omega
            rw [this, ih b h]
  · rintro rfl; exact cb_self a

theorem cb_neg (a b : List UInt8) : Lib.compareBytes b a = - Lib.compareBytes a b := by
  induction a generalizing b with
  | nil => cases b <;> simp [Lib.compareBytes]
  | cons x a ih => cases b with
    | nil => simp [Lib.compareBytes]
    | cons y b =>
      unfold Lib.compareBytes
      by_cases h1 : x < y
      · have h2 : ¬ y < x := by rw [UInt8.lt_iff_toNat_lt] at h1 ⊢; omega
        simp [h1, h2]
      · by_cases h2 : y < x
        · simp [h1, h2]
        · simp [h1, h2, ih b]

theorem cb_range (a b : List UInt8) : Lib.compareBytes a b = -1 ∨ Lib.compareBytes a b = 0 ∨ Lib.compareBytes a b = 1 := by
  induction a generalizing b with
  | nil => cases b <;> simp [Lib.compareBytes]
  | cons x a ih => cases b with
    | nil => simp [Lib.compareBytes]
    | cons y b =>
      unfold Lib.compareBytes
      by_cases h1 : x < y
      · simp [h1]
      · by_cases h2 : y < x
        · simp [h1, h2]
        · simpa [h1, h2] using ih b

theorem cb_lt_trans (a b c : List UInt8) (h1 : Lib.compareBytes a b < 0) (h2 : Lib.compareBytes b c < 0) : Lib.compareBytes a c < 0 := by
  induction a generalizing b c with
  | nil => cases c with
    | nil => cases b <;> simp [Lib.compareBytes] at h1 h2
    | cons z c => simp [Lib.compareBytes]
  | cons x a ih => cases b with
    | nil => simp [Lib.compareBytes] at h1
    | cons y b => cases c with
      | nil => simp [Lib.compareBytes] at h2
      | cons z c =>
        unfold Lib.compareBytes at h1 h2 ⊢
        simp only [UInt8.lt_iff_toNat_lt] at h1 h2 ⊢
        by_cases p1 : x.toNat < y.toNat
        · by_cases q1 : y.toNat < z.toNat
          · rw [if_pos (by omega)]; decide
          · rw [if_neg q1] at h2
            by_cases q2 : z.toNat < y.toNat
            · rw [if_pos q2] at h2; simp at h2
            · rw [if_pos (by omega)]; decide
        · rw [if_neg p1] at h1
          by_cases p2 : y.toNat < x.toNat
          · rw [if_pos p2] at h1; simp at h1
          · rw [if_neg p2] at h1
            by_cases q1 : y.toNat < z.toNat
            · rw [if_pos (by omega)]; decide
            · rw [if_neg q1] at h2
              by_cases q2 : z.toNat < y.toNat
              · rw [if_pos q2] at h2; simp at h2
              · rw [if_neg q2] at h2
                rw [if_neg (by omega), if_neg (by omega)]
                exact ih b c h1 h2

theorem cb_less (a b : List UInt8) : decide (Lib.compareBytes a b < 0) = Op.bytesLess a b := by
  induction a generalizing b with
  | nil => cases b <;> simp [Lib.compareBytes, Op.bytesLess]
  | cons x a ih => cases b with
    | nil => simp [Lib.compareBytes, Op.bytesLess]
    | cons y b =>
      unfold Lib.compareBytes Op.bytesLess
      rw [← ih b]
      by_cases h1 : x < y
      · simp [h1]
      · by_cases h2 : y < x
        · have hne : (x == y) = false := by
            rw [beq_eq_false_iff_ne]; rintro rfl; exact h1 h2
          simp [h1, h2, hne]
        · have he : x = y := by
            apply UInt8.toNat_inj.1
            rw [UInt8.lt_iff_toNat_lt] at h1 h2
            omega
          simp [he]

/-- The order of pairs: by the first, then by the second. -/
def pairI (x y : Int) : Int := if x = 0 then y else x

end Go.Proofs.Ytipbdpjnabeilaa

/-
  The contracts of byName, and of slices.SortStableFunc over it where there are fewer than 20 fields.
-/
namespace Go.Proofs.Ytipbdpjnabeilaa
open Go.RowKit Go.Sort Go.Lib

def cmpF (x y : Fx) : Int := Lib.compareBytes x.name.data.toList y.name.data.toList
theorem ltF (x y : Fx) : ltOf cmpF x y = decide (Lib.compareBytes x.name.data.toList y.name.data.toList < 0) := rfl

theorem swoF : SWO (ltOf cmpF) where
  irrefl x := by rw [ltF, (cb_zero _ _).2 rfl]; rfl
  trans x y z h1 h2 := by
    rw [ltF, decide_eq_true_iff] at *
    exact cb_lt_trans _ _ _ h1 h2
  ntrans x y z h1 h2 := by
    rw [ltF, decide_eq_false_iff_not] at *
    intro h
    have n1 := cb_neg x.name.data.toList y.name.data.toList
    have n2 := cb_neg y.name.data.toList z.name.data.toList
    rcases cb_range y.name.data.toList x.name.data.toList with h3 | h3 | h3
    · have h4 := cb_lt_trans _ _ _ (show Lib.compareBytes y.name.data.toList x.name.data.toList < 0 by omega) h
      exact h2 h4
    · have e := (cb_zero _ _).1 h3
      rw [e] at h2
      exact h2 h
    · omega

theorem ltF_ne (x y : Fx) (h : ltOf cmpF x y = true) : x.name ≠ y.name := by
  rw [ltF, decide_eq_true_iff] at h
  intro e
  rw [e, cb_self] at h
  omega

theorem encX_one (x : Fx) : ∀ v ∈ encX x, v.oneCell' = true := fun v hv => by simp [encX] at hv; rcases hv with rfl | rfl <;> rfl

/-- What a stable sort leaves. -/
def Sorts (w : World) (blk off : Nat) (d : Array Fx) (w' : World) : Prop :=
  ∃ d' n os, PermIn 0 d.size d d' ∧ SortedIn (ltOf cmpF) 0 d.size d' ∧ Stab Fx.name d d' ∧ w' = sortWorldK encX 2 w blk off n d' os

end Go.Proofs.Ytipbdpjnabeilaa

/-
  The contracts of slices.Clone of texts, and of Texts.
-/
namespace Go.Proofs.Ytipbdpjnabeilaa
open Go.RowKit

theorem cloneT_any (p : Option Addr) (cap : Nat) (ts : List ByteArray) (w : World) (h : TxtAt w p ts) (hs : ts.length * 16 ≤ 140737488355328) :
    Calls Try.prog 46 #[.slice p ts.length cap] w fun e w' => ∃ v, e = .returned v ∧ OwnT w.heap.size w' v ts ∧ Below w.heap.size w w' := by
  rcases h with rfl | ⟨b, off, rfl, hc⟩
  · cases p with
    | none =>
      refine (Try.slices_Clone_string_nil 0 cap w).mono ?_
      rintro e w' ⟨rfl, rfl⟩
      exact ⟨_, rfl, World.ownsRow_nil _ _ _ _, Below.refl _ _⟩
    | some a =>
      refine (Try.slices_Clone_string_zero a cap w).mono ?_
      rintro e w' ⟨v, rfl, ho, _, hb⟩
      exact ⟨_, rfl, ho, hb⟩
  · refine (Try.slices_Clone_string b off ts.length cap ts w (Nat.le_refl _) hs (fun j hj => ?_)).mono ?_
    · rw [hc j hj, List.getD_eq_getElem?_getD, List.getElem?_eq_getElem hj]; rfl
    · rintro e w' ⟨v, rfl, ho, _, hb⟩
      rw [List.take_length] at ho
      exact ⟨_, rfl, ho, hb⟩

/-- The texts of the first field of that name. -/
def textsOf (fs : List Fld) (n : ByteArray) : List ByteArray := ((fs.find? fun f => decide (f.1 = n)).map (·.2)).getD []

theorem textsOf_at (fs : List Fld) (n : ByteArray) (i : Nat) (hi : i < fs.length) (hn : ∀ j (h : j < i), (fs[j]'(by omega)).1 ≠ n) (he : fs[i].1 = n) : textsOf fs n = fs[i].2 := by
  unfold textsOf
  have : fs.find? (fun f => decide (f.1 = n)) = some fs[i] := by
    rw [List.find?_eq_some_iff_getElem]
    refine ⟨by simpa using he, i, hi, rfl, fun j hj => ?_⟩
    simpa using hn j hj
  rw [this]; rfl

theorem textsOf_no (fs : List Fld) (n : ByteArray) (hn : ∀ j (h : j < fs.length), fs[j].1 ≠ n) : textsOf fs n = [] := by
  unfold textsOf
  have : fs.find? (fun f => decide (f.1 = n)) = none := by
    rw [List.find?_eq_none]
    intro f hf
    obtain ⟨j, hj, rfl⟩ := List.mem_iff_getElem.1 hf
    simpa using hn j hj
  rw [this]; rfl

def TxPost (w : World) (ts : List ByteArray) (e : Ending) (w' : World) : Prop := (∃ v, e = .returned v ∧ OwnT w.heap.size w' v ts) ∧ Below w.heap.size w w'

end Go.Proofs.Ytipbdpjnabeilaa

/-
  Fields of one name taken as one: the plain mathematics, and the memory that joined works on.
-/
namespace Go.Proofs.Ytipbdpjnabeilaa
open Go.RowKit Go.Sort Go.Lib

/-- One field more: its texts behind those of the last field, if that has its name. -/
def joinStep (o : List Fld) (f : Fld) : List Fld :=
  match o.getLast? with
  | some l => if l.1 = f.1 then o.dropLast ++ [(l.1, l.2 ++ f.2)] else o ++ [f]
  | none => [f]
def joinS (fs : List Fld) : List Fld := fs.foldl joinStep []
def totF (fs : List Fld) : Nat := (fs.map fun f => f.2.length).sum

theorem joinStep_nil (f : Fld) : joinStep [] f = [f] := rfl
theorem joinStep_same (o : List Fld) (l f : Fld) (h : l.1 = f.1) : joinStep (o ++ [l]) f = o ++ [(l.1, l.2 ++ f.2)] := by
  simp [joinStep, h]
theorem joinStep_other (o : List Fld) (l f : Fld) (h : l.1 ≠ f.1) : joinStep (o ++ [l]) f = o ++ [l] ++ [f] := by
  simp [joinStep, h]
theorem joinS_snoc (fs : List Fld) (f : Fld) : joinS (fs ++ [f]) = joinStep (joinS fs) f := by simp [joinS]

theorem totF_append (a b : List Fld) : totF (a ++ b) = totF a + totF b := by simp [totF]
theorem totF_one (f : Fld) : totF [f] = f.2.length := by simp [totF]
theorem totF_step (o : List Fld) (f : Fld) : totF (joinStep o f) = totF o + f.2.length := by
  rcases List.eq_nil_or_concat o with rfl | ⟨o', l, rfl⟩
  · rw [joinStep_nil, totF_one]; simp [totF]
  · rw [List.concat_eq_append]
    by_cases h : l.1 = f.1
    · rw [joinStep_same _ _ _ h, totF_append, totF_append, totF_one, totF_one, List.length_append]; omega
    · rw [joinStep_other _ _ _ h, totF_append, totF_one]
theorem totF_joinS (fs : List Fld) : totF (joinS fs) = totF fs := by
  have : ∀ (l o : List Fld), totF (l.foldl joinStep o) = totF o + totF l := by
    intro l
    induction l with
    | nil => intro o; simp [totF]
    | cons f l ih =>
      intro o
      rw [List.foldl_cons, ih, totF_step]
      have : totF (f :: l) = f.2.length + totF l := by simp [totF]
      omega
  have h := this fs []
  simpa [joinS, totF] using h
theorem joinStep_len (o : List Fld) (f : Fld) : (joinStep o f).length ≤ o.length + 1 := by
  rcases List.eq_nil_or_concat o with rfl | ⟨o', l, rfl⟩
  · simp [joinStep_nil]
  · rw [List.concat_eq_append]
    by_cases h : l.1 = f.1
    · rw [joinStep_same _ _ _ h]; simp
    · rw [joinStep_other _ _ _ h]; simp
theorem joinS_len (fs : List Fld) : (joinS fs).length ≤ fs.length := by
  have : ∀ (l o : List Fld), (l.foldl joinStep o).length ≤ o.length + l.length := by
    intro l
    induction l with
    | nil => intro o; simp
    | cons f l ih =>
      intro o
      rw [List.foldl_cons, List.length_cons]
      have h1 := ih (joinStep o f)
      have h2 := joinStep_len o f
      omega
  have h := this fs []
  simpa [joinS] using h
theorem totF_mem {fs : List Fld} {f : Fld} (h : f ∈ fs) : f.2.length ≤ totF fs := by
  obtain ⟨a, b, rfl⟩ := List.append_of_mem h
  have : totF (a ++ f :: b) = totF a + (f.2.length + totF b) := by simp [totF]
  omega

/-- The rows of texts of unlike fields are unlike rows. -/
def Apart (o : List Fx) : Prop := o.Pairwise fun x y => x.sl.ownBlock = none ∨ x.sl.ownBlock ≠ y.sl.ownBlock
def OwnJ (N : Nat) (w : World) (v : Value) (o : List Fx) : Prop := OwnXs N w v o ∧ Apart o

theorem OwnJ.on {N : Nat} {w w' : World} {v : Value} {o : List Fx} (h : OwnJ N w v o) (hb : Below w.heap.size w w') : OwnJ N w' v o := ⟨h.1.on hb, h.2⟩

theorem apart_snoc {o : List Fx} {x : Fx} (h : Apart o) (hx : ∀ y ∈ o, y.sl.ownBlock = none ∨ y.sl.ownBlock ≠ x.sl.ownBlock) : Apart (o ++ [x]) := by
  unfold Apart
  rw [List.pairwise_append]
  exact ⟨h, List.pairwise_singleton _ _, fun a ha b hb => by rw [List.mem_singleton] at hb; subst hb; exact hx a ha⟩

theorem apart_init {o : List Fx} {x : Fx} (h : Apart (o ++ [x])) : Apart o ∧ ∀ y ∈ o, y.sl.ownBlock = none ∨ y.sl.ownBlock ≠ x.sl.ownBlock := by
  unfold Apart at h
  rw [List.pairwise_append] at h
  exact ⟨h.1, fun y hy => h.2.2 y hy x (by simp)⟩

/-- A row of bytes, texts or fields, by what it is a row of. -/
theorem own_type {w : World} {n0 : Nat} {e : TypeId} {size : Nat} {v : Value} {n : Nat} {xs : List Value} {k : Nat} (h : w.ownsRow n0 e size v n xs) (hk : v.ownBlock = some k) : ∃ cs, w.heap[k]? = some (.cells cs e (0, 0)) := by
  rcases h.2 with ⟨rfl, _⟩ | ⟨g, cap, cur, rfl, _, hg, _⟩
  · cases hk
  · have : g = k := by simpa [Value.ownBlock] using hk
    subst this
    exact ⟨cur, hg⟩

/-- Whatever row of another kind stands while texts are appended. -/
theorem own_else {w w' : World} {n0 m0 : Nat} {e e' : TypeId} {size size' : Nat} {v u : Value} {n m : Nat} {xs ys : List Value} (h : w.ownsRow n0 e size v n xs) (hu : w.ownsRow m0 e' size' u m ys) (hne : e ≠ e') (hg : w.grownBy w' u.ownBlock) : w'.ownsRow n0 e size v n xs := by
  refine h.kept hg ?_
  rcases hv : v.ownBlock with _ | k
  · exact Or.inl rfl
  · right
    intro e2
    obtain ⟨cs, h1⟩ := own_type h hv
    obtain ⟨cs', h2⟩ := own_type hu e2.symm
    rw [h1] at h2
    injection h2 with h2
    injection h2 with _ h2
    exact hne h2

/-- The last field's texts have grown: what its row, and the rows of the others, are now. -/
theorem joined_grown {N : Nat} {w w4 : World} {o : List Fx} {x : Fx} {ts : List ByteArray} {g cap go cp : Nat} (h : OwnJ N w (.slice (some ⟨go, 0, none⟩) (o.length + 1) cp) (o ++ [x]))
    (hown : w4.ownsRow N 9 1 (.slice (some ⟨g, 0, none⟩) (x.txt.length + ts.length) cap) (x.txt.length + ts.length) (x.txt.map Value.string ++ ts.map Value.string))
    (hg : w.grownBy w4 x.sl.ownBlock) (hat : x.sl.ownBlock = some g ∨ g = w.heap.size) :
    w4.cell? ⟨go, o.length * 2 + 1, none⟩ = some x.sl ∧ w4.frozen? ⟨go, o.length * 2 + 1, none⟩ = false ∧
      OwnJ N (w4.setCell ⟨go, o.length * 2 + 1, none⟩ (.slice (some ⟨g, 0, none⟩) (x.txt.length + ts.length) cap)) (.slice (some ⟨go, 0, none⟩) (o.length + 1) cp) (o ++ [⟨x.name, some ⟨g, 0, none⟩, cap, x.txt ++ ts⟩]) := by
  obtain ⟨⟨hrow, htx⟩, hap⟩ := h
  obtain ⟨hap1, hap2⟩ := apart_init hap
  have hx := htx x (by simp)
  have hrow4 : w4.ownsRow N 61 2 (.slice (some ⟨go, 0, none⟩) (o.length + 1) cp) (o ++ [x]).length (cellsX (o ++ [x])) := own_else hrow hx (by decide) hg
  have hlen : (o ++ [x]).length = o.length + 1 := by simp
  rw [hlen] at hrow4
  have hget := cellsX_get (o ++ [x]) o.length (by simp)
  simp only [List.getElem_concat_length] at hget
  have c1 : w4.cell? ⟨go, o.length * 2 + 1, none⟩ = some x.sl := by rw [hrow4.cellAt _ (by omega)]; exact hget.2
  refine ⟨c1, hrow4.frozenAt _, ⟨?_, ?_⟩, ?_⟩
  · have hst := hrow4.stored (o.length * 2 + 1) (.slice (some ⟨g, 0, none⟩) (x.txt.length + ts.length) cap)
    have e1 : (cellsX (o ++ [x])).set (o.length * 2 + 1) (.slice (some ⟨g, 0, none⟩) (x.txt.length + ts.length) cap) = cellsX (o ++ [⟨x.name, some ⟨g, 0, none⟩, cap, x.txt ++ ts⟩]) := by
      rw [cellsX_append, cellsX_append, List.set_append_right _ _ (by rw [cellsX_len]; omega), cellsX_len]
      simp [cellsX, encX, Fx.sl]
    rw [e1] at hst
    rw [List.length_append]
    exact hst.1
  · intro y hy
    have hset : w4.grownBy (w4.setCell ⟨go, o.length * 2 + 1, none⟩ (.slice (some ⟨g, 0, none⟩) (x.txt.length + ts.length) cap)) (Value.slice (some ⟨go, 0, none⟩) (o.length + 1) cp).ownBlock := grown_set w4 go _ _
    rw [List.mem_append, List.mem_singleton] at hy
    rcases hy with hy | rfl
    · have hy0 := htx y (by simp [hy])
      have hy4 : w4.ownsRow N 9 1 y.sl y.txt.length (y.txt.map Value.string) := hy0.kept hg (hap2 y hy)
      exact own_else hy4 hrow4 (by decide) hset
    · have : w4.ownsRow N 9 1 (.slice (some ⟨g, 0, none⟩) (x.txt.length + ts.length) cap) (x.txt ++ ts).length ((x.txt ++ ts).map Value.string) := by
        rw [List.length_append, List.map_append]; exact hown
      show World.ownsRow _ N 9 1 (.slice (some ⟨g, 0, none⟩) (x.txt ++ ts).length cap) (x.txt ++ ts).length ((x.txt ++ ts).map Value.string)
      rw [List.length_append] at this ⊢
      exact own_else this hrow4 (by decide) hset
  · refine apart_snoc hap1 fun y hy => ?_
    have hy0 := htx y (by simp [hy])
    show y.sl.ownBlock = none ∨ y.sl.ownBlock ≠ some g
    rcases hat with hat | hat
    · rw [← hat]; exact hap2 y hy
    · rcases hb : y.sl.ownBlock with _ | k
      · exact Or.inl rfl
      · right
        have := (World.ownsRow.lt hy0 k hb).2
        intro e
        simp at e; omega

end Go.Proofs.Ytipbdpjnabeilaa

/-
  The contracts of slices.Clone of fields, and of joined.
-/
namespace Go.Proofs.Ytipbdpjnabeilaa
open Go.RowKit Go.Sort Go.Lib

theorem xs_cells {w : World} {b off : Nat} {d : List Fx} (h : XsAt w b off d) : ∀ j u, (cellsX d)[j]? = some u → w.cell? ⟨b, off + j, none⟩ = some u := by
  intro j u hj
  have hjl := (List.getElem?_eq_some_iff.1 hj).1
  rw [cellsX_len] at hjl
  obtain ⟨c0, c1⟩ := h (j / 2) (by omega)
  obtain ⟨g0, g1⟩ := cellsX_get d (j / 2) (by omega)
  rcases Nat.mod_two_eq_zero_or_one j with h2 | h2
  · have e : j / 2 * 2 = j := by omega
    rw [e] at c0 g0
    rw [g0] at hj
    rw [c0]; exact hj
  · have e : j / 2 * 2 + 1 = j := by omega
    rw [show off + j / 2 * 2 + 1 = off + j by omega] at c1
    rw [e] at g1
    rw [g1] at hj
    rw [c1]; exact hj

set_option maxHeartbeats 2000000 in
set_option maxRecDepth 100000 in
theorem cloneX_any (v : Value) (d : List Fx) (w : World) (hv : IsXs w v d) (hs : d.length * 40 ≤ 140737488355328) :
    Calls Try.prog 45 #[v] w fun e w' => ∃ u, e = .returned u ∧ w'.ownsRow w.heap.size 61 2 u d.length (cellsX d) ∧ Below w.heap.size w w' := by
  obtain ⟨i0, hi, hz0, hz1, hz2⟩ := info_parts Try.infoFld
  obtain ⟨p, cap, rfl, hd, _⟩ := hv
  have q22 : ∀ (w : World) (a : Option Addr) (n c n' c' : Nat), (binOp .eql 31 (.slice a n c) (.slice none n' c')).run Try.prog w = .ok (.bool a.isNone) w := fun w a n c n' c' => Lib.run_eql_slice_nil w _ _ a n c n' c' Try.underlying31
  have HD := hid hd
  clear hd
  cases p with
  | none =>
    have h0 : d = [] := by
      rcases HD.out with h | ⟨b, off, h, _⟩
      · exact h
      · cases h
    subst h0
    go_enter Try.func45, Try.ntmps45
    go_wp2_with fail
    go_ret
    exact ⟨_, rfl, World.ownsRow_nil _ _ _ _, Below.refl _ _⟩
  | some a =>
    have hcells : ∀ j u, (cellsX d)[j]? = some u → (w.alloc (.cells #[] 61)).cell? (a.add j) = some u := by
      rcases HD.out with h | ⟨b, off, h, hx⟩
      · subst h; intro j u hj; simp [cellsX] at hj
      · intro j u hj
        obtain rfl : a = ⟨b, off, none⟩ := by simpa using h
        rw [addr_add]
        have := xs_cells hx j u hj
        rw [World.cell?_alloc_lt _ _ ⟨b, off + j, none⟩ (cell_block this)]; exact this
    have HC := hid hcells
    clear hcells
    go_enter Try.func45, Try.ntmps45
    go_wp2_with (at_builtin; refine wpList_append_own _ rfl _ _ 31 rfl w.heap.size 61 i0 (.agg #[.string ⟨#[]⟩, .slice none 0 0]) 2 40 Try.underlying31 hi hz0 hz1 hz2 rfl (by decide) _ _ _ rfl (World.ownsRow_made w #[] 0 (Nat.le_refl _) (Nat.zero_le _) (by simp)) a d.length cap (cellsX d) rfl ?c0 ?c1 ?c2 ?c3 ?c4 ?c5 ?_)
    case c0 => exact cellsX_len d
    case c1 => exact HC.out
    case c2 => exact cellsX_one d
    case c3 => unfold maxLen; omega
    case c4 => omega
    case c5 => simp
    intro v' w1 hown hgrow hnil
    have hb1 : Below w.heap.size w w1 := ((Below.refl _ w).alloc (Nat.le_refl _) _).grown hgrow (by simp) (by intro k hk; simp [Value.ownBlock] at hk; omega)
    have HO : Hid (w1.ownsRow w.heap.size 61 2 v' d.length (cellsX d)) := hid (by simpa using hown)
    clear hown hgrow hnil
    go_wp2_with fail
    go_ret
    exact ⟨_, rfl, HO.out, hb1⟩

theorem flat_get (l : List Fx) (t : Nat) (h : t < l.length * 2) : (l.flatMap encX)[t]? = some (encX (l[t / 2]!))[t % 2]! := by
  induction l generalizing t with
  | nil => simp at h
  | cons x l ih =>
    rw [List.flatMap_cons]
    by_cases h2 : t < 2
    · rcases (show t = 0 ∨ t = 1 by omega) with rfl | rfl <;> simp [encX]
    · obtain ⟨u, rfl⟩ : ∃ u, t = u + 2 := ⟨t - 2, by omega⟩
      have hl : (encX x).length = 2 := rfl
      rw [List.getElem?_append_right (by omega), hl, show u + 2 - 2 = u by omega, ih u (by simp at h; omega), show (u + 2) / 2 = u / 2 + 1 by omega, show (u + 2) % 2 = u % 2 by omega]
      simp

theorem holds_of_heap {w : World} {g : Nat} {cur : Array Value} {e : TypeId} (d : Array Fx) (hheap : w.heap[g]? = some (.cells cur e (0, 0))) (htake : cur.toList.take (d.size * 2) = cellsX d.toList) : HoldsK encX 2 w g 0 d := by
  intro j hj
  rw [size_flatK] at hj
  have hg := flat_get d.toList j (by simpa using hj)
  have h1 : (cur.toList.take (d.size * 2))[j]? = some (encX (d.toList[j / 2]!))[j % 2]! := by rw [htake]; exact hg
  rw [List.getElem?_take_of_lt hj] at h1
  rw [get_flatK _ _ _ _ hj]
  constructor
  · simp only [World.cell?, hheap, Nat.zero_add]
    have he : d.toList[j / 2]! = d[j / 2]! := by
      rw [getElem!_pos d (j / 2) (by omega), getElem!_pos d.toList (j / 2) (by simp; omega)]; simp
    rw [← Array.getElem?_toList, h1, he]
    rfl
  · simp [World.frozen?, hheap]

theorem below_sortWorld {B : Nat} {w0 w : World} (h : Below B w0 w) (hB : B ≤ w.heap.size) (blk off n : Nat) (d : Array Fx) (os : Array Obj) (hb : B ≤ blk) : Below B w0 (sortWorldK encX 2 w blk off n d os) := by
  refine h.trans ⟨rfl, rfl, rfl, ?_, ?_⟩
  · simp [sortWorldK, putRowK]
  · intro k hk
    have hks : k < w.heap.size := by omega
    simp only [sortWorldK, Sort.grow, putRowK, putRow, mapBlock, Sort.ahead]
    rw [Array.getElem?_append_left (by simpa using hks), Array.getElem?_modify, if_neg (by omega)]

/-- What the sort of a row leaves, as fields. -/
theorem sorted_xs {w w' : World} {g : Nat} {d : Array Fx} (hH : HoldsK encX 2 w g 0 d) (hg : g < w.heap.size) (h : Sorts w g 0 d w') : ∃ d' : List Fx, d'.length = d.size ∧ XsAt w' g 0 d' ∧ d'.Perm d.toList ∧ (d'.Pairwise fun x y => ltOf cmpF y x = false) ∧ (∀ c, d'.filter (fun x => decide (x.name = c)) = d.toList.filter fun x => decide (x.name = c)) := by
  obtain ⟨e, n, os, hp, hs, hst, rfl⟩ := h
  have hsz : e.size = d.size := hp.1
  have hH2 : HoldsK encX 2 (sortWorldK encX 2 w g 0 n e os) g 0 e := by
    exact holdsK_grow encX 2 _ os g 0 _ (by simpa [putRowK] using hg) (holdsK_putRowK encX 2 (Sort.ahead w n) g 0 _ _ (holdsK_ahead encX 2 w n g 0 _ hH) hsz)
  refine ⟨e.toList, by simpa using hsz, fun i hi => ?_, ?_, ?_, hst⟩
  · have hi' : i < e.size := by simpa using hi
    have k0 := (hH2.cell (i := i) (c := 0) hi' (by simp)).1
    have k1 := (hH2.cell (i := i) (c := 1) hi' (by simp)).1
    have he : e[i]! = e.toList[i] := by rw [getElem!_pos e i hi']; simp
    rw [he] at k0 k1
    exact ⟨by simpa [encX] using k0, by simpa [encX, Nat.add_assoc] using k1⟩
  · have := hp.2.2
    have e1 : e.extract 0 d.size = e := by rw [← hsz]; simp
    have e2 : d.extract 0 d.size = d := by simp
    rw [e1, e2] at this
    exact this
  · rw [List.pairwise_iff_getElem]
    intro i j hi hj hij
    have hi' : i < e.size := by simpa using hi
    have hj' : j < e.size := by simpa using hj
    have := hs i j (Nat.zero_le _) hij (by omega)
    rw [getElem!_pos e i hi', getElem!_pos e j hj'] at this
    simpa using this

end Go.Proofs.Ytipbdpjnabeilaa

/-
  The plain mathematics of a stable sort by blocks: sorted blocks, merged two by two.
-/
namespace Go.Proofs.Ytipbdpjnabeilaa
open Go.Sort
set_option linter.unusedSectionVars false
variable {α : Type} [Inhabited α] {κ : Type} [DecidableEq κ]

/-- The same elements, equals in their order. -/
def Way (K : α → κ) (d dk : Array α) : Prop := PermIn 0 d.size d dk ∧ Stab K d dk

theorem Way.refl (K : α → κ) (d : Array α) : Way K d d := ⟨permIn_refl _ _ _, Stab.refl K d⟩
theorem Way.size {K : α → κ} {d dk : Array α} (h : Way K d dk) : dk.size = d.size := h.1.1

theorem Way.step {K : α → κ} {d dk dl : Array α} {a b : Nat} (h : Way K d dk) (p : PermIn a b dk dl) (hb : b ≤ d.size) (s : Stab K dk dl) : Way K d dl := by
  have e : dk.size = d.size := h.1.1
  exact ⟨permIn_trans _ _ _ _ _ h.1 (permIn_mono _ _ _ _ _ _ (Nat.zero_le _) hb (Nat.le_of_eq e.symm) p), h.2.trans s⟩

/-- The first q blocks of c are sorted. -/
def SegTo (lt : α → α → Bool) (c q : Nat) (d : Array α) : Prop := ∀ t, t < q → SortedIn lt (t * c) (t * c + c) d
/-- The blocks of c are sorted, from place a on up to n. -/
def SegFrom (lt : α → α → Bool) (c a n : Nat) (d : Array α) : Prop := ∀ t, SortedIn lt (a + t * c) (min (a + t * c + c) n) d

theorem sorted_out {lt : α → α → Bool} {a b x y : Nat} {d d' : Array α} (p : PermIn a b d d') (h : SortedIn lt x y d) (hd : y ≤ a ∨ b ≤ x) : SortedIn lt x y d' := fun i j h1 h2 h3 => by
  rw [p.2.1 i (by omega), p.2.1 j (by omega)]
  exact h i j h1 h2 h3

theorem sorted_mono {lt : α → α → Bool} {a b x y : Nat} {d : Array α} (h : SortedIn lt a b d) (h1 : a ≤ x) (h2 : y ≤ b) : SortedIn lt x y d := fun i j k1 k2 k3 => h i j (by omega) k2 (by omega)

theorem segTo_zero (lt : α → α → Bool) (c : Nat) (d : Array α) : SegTo lt c 0 d := fun _ ht => absurd ht (Nat.not_lt_zero _)

theorem blk_le {t q : Nat} (c : Nat) (h : t < q) : t * c + c ≤ q * c := by
  have := Nat.mul_le_mul_right c (show t + 1 ≤ q from h)
  rwa [Nat.add_mul, Nat.one_mul] at this

theorem SegTo.step {lt : α → α → Bool} {c q : Nat} {d d' : Array α} (h : SegTo lt c q d) (p : PermIn (q * c) (q * c + c) d d') (s : SortedIn lt (q * c) (q * c + c) d') : SegTo lt c (q + 1) d' := fun t ht => by
  by_cases e : t < q
  · exact sorted_out p (h t e) (Or.inl (blk_le c e))
  · obtain rfl : t = q := by omega
    exact s

theorem SegTo.last {lt : α → α → Bool} {c q n : Nat} {d d' : Array α} (h : SegTo lt c q d) (hn : n < q * c + c) (p : PermIn (q * c) n d d') (s : SortedIn lt (q * c) n d') : SegFrom lt c 0 n d' := fun t => by
  rw [Nat.zero_add]
  rcases Nat.lt_trichotomy t q with e | e | e
  · exact sorted_mono (sorted_out p (h t e) (Or.inl (blk_le c e))) (Nat.le_refl _) (by omega)
  · subst e
    exact sorted_mono s (Nat.le_refl _) (by omega)
  · have := blk_le c e
    intro i j h1 h2 h3
    omega

theorem SegFrom.first {lt : α → α → Bool} {c a n : Nat} {d : Array α} (h : SegFrom lt c a n d) (hn : a + c ≤ n) : SortedIn lt a (a + c) d := by
  have := h 0
  rw [Nat.zero_mul, Nat.add_zero, Nat.min_eq_left hn] at this
  exact this

theorem SegFrom.second {lt : α → α → Bool} {c a n e : Nat} {d : Array α} (h : SegFrom lt c a n d) (h1 : e ≤ a + c + c) (h2 : e ≤ n) : SortedIn lt (a + c) e d := by
  have := h 1
  rw [Nat.one_mul] at this
  exact sorted_mono this (Nat.le_refl _) (by omega)

theorem SegFrom.short {lt : α → α → Bool} {c a n : Nat} {d : Array α} (h : SegFrom lt c a n d) (hn : n ≤ a + c) : SortedIn lt a n d := by
  have := h 0
  rw [Nat.zero_mul, Nat.add_zero, Nat.min_eq_right hn] at this
  exact this

theorem SegFrom.step {lt : α → α → Bool} {c a n : Nat} {d d' : Array α} (h : SegFrom lt c a n d) (p : PermIn a (a + 2 * c) d d') : SegFrom lt c (a + 2 * c) n d' := fun t => by
  have := h (t + 2)
  have e : a + (t + 2) * c = a + 2 * c + t * c := by rw [Nat.add_mul]; omega
  rw [e] at this
  exact sorted_out p this (Or.inr (by omega))

/-- What the rotation of a merge leaves to do. -/
theorem merge_cut {lt : α → α → Bool} {K : α → κ} (hS : SWO lt) (hK : ∀ x y, lt x y = true → K x ≠ K y) {a s m e b mid : Nat} {d d1 : Array α} (h : Rot s m e d d1) (has : a ≤ s) (hsm : s ≤ m) (hme : m ≤ e) (heb : e ≤ b) (hb : b ≤ d.size) (hmid : s + (e - m) = mid)
    (hL : SortedIn lt a m d) (hR : SortedIn lt m b d) (hlow : a < s → e < b → lt d[e]! d[s - 1]! = false) (hhigh : s < m → m < e → lt d[e - 1]! d[s]! = true) :
    SortedIn lt a s d1 ∧ SortedIn lt s mid d1 ∧ (¬ (a < s ∧ s < mid) → Mrg lt K a mid d1 d1) ∧
      (∀ d2, Mrg lt K a mid d1 d2 → SortedIn lt mid e d2 ∧ SortedIn lt e b d2 ∧ (¬ (mid < e ∧ e < b) → Mrg lt K mid b d2 d2) ∧ ∀ d3, Mrg lt K mid b d2 d3 → Mrg lt K a b d d3) := by
  subst hmid
  obtain ⟨_, _, s1, s2, s3, s4, _⟩ := h.merge (K := K) hS hK has hsm hme heb hb hL hR hlow hhigh
  refine ⟨s1, s2, fun hn => Mrg.none ?_, fun d2 m2 => ?_⟩
  · by_cases e1 : a < s
    · rw [show s + (e - m) = s by omega]; exact s1
    · rw [show a = s by omega]; exact s2
  · have t3 := sorted_out m2.1 s3 (Or.inr (Nat.le_refl _))
    have t4 := sorted_out m2.1 s4 (Or.inr (by omega))
    refine ⟨t3, t4, fun hn => Mrg.none ?_, fun d3 m3 => Mrg.of_rot hS hK h has hsm hme heb hb hL hR hlow hhigh m2 m3⟩
    by_cases e1 : s + (e - m) < e
    · rw [show b = e by omega]; exact t3
    · rw [show s + (e - m) = e by omega]; exact t4

theorem Mrg.size {lt : α → α → Bool} {K : α → κ} {a b : Nat} {d d' : Array α} (h : Mrg lt K a b d d') : d'.size = d.size := h.1.1

end Go.Proofs.Ytipbdpjnabeilaa

/-
  The contracts of swapRangeCmpFunc and rotateCmpFunc, of slices, over fields.
-/
namespace Go.Proofs.Ytipbdpjnabeilaa
open Go.RowKit Go.Sort Go.Lib Go.Shelf

/-- The runs of n from a on and from b on have changed places. -/
def Swapd (a b n : Nat) (d dk : Array Fx) : Prop :=
  dk.size = d.size ∧ (∀ t, t < n → dk[a + t]! = d[b + t]!) ∧ (∀ t, t < n → dk[b + t]! = d[a + t]!) ∧ ∀ i, (i < a ∨ a + n ≤ i) → (i < b ∨ b + n ≤ i) → dk[i]! = d[i]!

theorem Swapd.zero (a b : Nat) (d : Array Fx) : Swapd a b 0 d d := ⟨rfl, fun t ht => by omega, fun t ht => by omega, fun _ _ _ => rfl⟩

theorem Swapd.step {a b n : Nat} {d dk : Array Fx} (h : Swapd a b n d dk) (hab : a + n < b) (hb : b + n < d.size) : Swapd a b (n + 1) d (swp dk (a + n) (b + n)) := by
  obtain ⟨h1, h2, h3, h4⟩ := h
  refine ⟨by rw [size_swp, h1], fun t ht => ?_, fun t ht => ?_, fun i hi hj => ?_⟩
  · by_cases e : t = n
    · subst e
      rw [swp_left _ _ _ (by omega) (by omega)]
      exact h4 _ (by omega) (by omega)
    · rw [swp_other _ _ _ _ (by omega) (by omega)]; exact h2 t (by omega)
  · by_cases e : t = n
    · subst e
      rw [swp_right _ _ _ (by omega)]
      exact h4 _ (by omega) (by omega)
    · rw [swp_other _ _ _ _ (by omega) (by omega)]; exact h3 t (by omega)
  · rw [swp_other _ _ _ _ (by omega) (by omega)]
    exact h4 _ (by omega) (by omega)

theorem swk_cells {w0 W : World} {blk off : Nat} {d0 dk : Array Fx} (h : SWK encX 2 w0 blk off dk W) (R : RowK encX 2 w0 blk off d0) (hs : dk.size = d0.size) (i : Nat) (hi : i < dk.size) :
    W.cell? ⟨blk, off + i * 2, none⟩ = some (.string dk[i]!.name) ∧ W.frozen? ⟨blk, off + i * 2, none⟩ = false ∧ W.cell? ⟨blk, off + i * 2 + 1, none⟩ = some dk[i]!.sl ∧ W.frozen? ⟨blk, off + i * 2 + 1, none⟩ = false := by
  have H := h.holds R.hblk R.hH hs
  have e0 := H (i * 2) (by rw [size_flatK]; omega)
  have e1 := H (i * 2 + 1) (by rw [size_flatK]; omega)
  rw [get_flatK _ _ _ _ (by omega)] at e0 e1
  rw [show i * 2 / 2 = i by omega, show i * 2 % 2 = 0 by omega] at e0
  rw [show (i * 2 + 1) / 2 = i by omega, show (i * 2 + 1) % 2 = 1 by omega] at e1
  exact ⟨e0.1, e0.2, e1.1, e1.2⟩

theorem swk_swapped {w0 W : World} {blk off : Nat} {d0 dk : Array Fx} (h : SWK encX 2 w0 blk off dk W) (R : RowK encX 2 w0 blk off d0) (i j : Nat) (hi : i < dk.size) (hj : j < dk.size) :
    SWK encX 2 w0 blk off (swp dk i j) ((((W.drew.setCell ⟨blk, off + i * 2, none⟩ (.string dk[j]!.name)).setCell ⟨blk, off + i * 2 + 1, none⟩ dk[j]!.sl).setCell ⟨blk, off + j * 2, none⟩ (.string dk[i]!.name)).setCell ⟨blk, off + j * 2 + 1, none⟩ dk[i]!.sl) :=
  h.swapped R i j hi hj

theorem cell_other {W : World} {b p q : Nat} {v u : Value} (h : W.cell? ⟨b, q, none⟩ = some u) (hne : p ≠ q) : (W.setCell ⟨b, p, none⟩ v).cell? ⟨b, q, none⟩ = some u := 
  (World.cell?_setCell_other (w := W) (a := ⟨b, p, none⟩) (b := ⟨b, q, none⟩) (v := v) (by intro e; cases e; exact hne rfl)).trans h

end Go.Proofs.Ytipbdpjnabeilaa

/-
  The contract of symMergeCmpFunc of slices, over fields.
-/
namespace Go.Proofs.Ytipbdpjnabeilaa
open Go.RowKit Go.Sort Go.Lib Go.Shelf

theorem swk_in {w0 W : World} {blk off : Nat} {d0 dk : Array Fx} (h : SWK encX 2 w0 blk off dk W) (R : RowK encX 2 w0 blk off d0) (hs : dk.size = d0.size) (i : Nat) (hi : i < dk.size) (n : Nat) (os : Array Obj) :
    (grow (W.drewN n) os).cell? ⟨blk, off + i * 2, none⟩ = some (.string dk[i]!.name) ∧ (grow (W.drewN n) os).cell? ⟨blk, off + i * 2 + 1, none⟩ = some (.slice dk[i]!.p dk[i]!.txt.length dk[i]!.cap) := by
  have := swk_cells (h.grown n os) R hs i hi
  exact ⟨this.1, this.2.2.1⟩

theorem ltF_true {x y : Fx} (h : ltOf cmpF x y = true) : cmpF x y < 0 := of_decide_eq_true h
theorem ltF_false {x y : Fx} (h : ltOf cmpF x y = false) : ¬ cmpF x y < 0 := of_decide_eq_false h

end Go.Proofs.Ytipbdpjnabeilaa

/-
  The contract of symMergeCmpFunc of slices, over fields: the general case, and the whole.
-/
namespace Go.Proofs.Ytipbdpjnabeilaa
open Go.RowKit Go.Sort Go.Lib Go.Shelf

end Go.Proofs.Ytipbdpjnabeilaa

/-
  The contracts of stableCmpFunc and SortStableFunc of slices, over fields.
-/
namespace Go.Proofs.Ytipbdpjnabeilaa
open Go.RowKit Go.Sort Go.Lib Go.Shelf

end Go.Proofs.Ytipbdpjnabeilaa

/-
  The contract of joined.
-/
namespace Go.Proofs.Ytipbdpjnabeilaa
open Go.RowKit Go.Sort Go.Lib

/-- An append of no text. -/
theorem step_txt0 {ops : Array Oper} {o : Oper} {a : Act} {K : Act → World → Prop} {Q : Exit → Act → World → Prop} {E : Prop} (w : World) (hgd : o.guard = none) (s x : Operand)
    (ho : o.op = .call { callee := .builtin .append, args := #[s, x], argTypes := #[59, 59] }) (q : Option Addr) (n cap : Nat) (p : Option Addr) (c : Nat)
    (hs : a.eval s = .slice q n cap) (hcap : n ≤ cap) (hx : a.eval x = .slice p 0 c) (hq : q = none → n = 0 ∧ cap = 0)
    (h : K (a.put o.dst (.slice q n cap)) w) :
    if Region.wanted o (yielded ops a.tmps) = true then Oper.wp Try.prog o a w K Q else E := by
  have hw : Region.wanted o (yielded ops a.tmps) = true := by simp [Region.wanted, hgd]
  rw [if_pos hw]
  obtain ⟨i0, hi0, _, _, _⟩ := info_parts Try.infoStr
  have hrun : (Builtin.append_ #[59, 59] o.type #[.slice q n cap, .slice p 0 c]).run Try.prog w = .ok (.slice q n cap) w := by
    cases q with
    | none =>
      obtain ⟨rfl, rfl⟩ := hq rfl
      cases p <;> simp [Builtin.append_, run_underlying Try.underlying59, Builtin.lenOf, Builtin.firstCells, sizeOf, typeInfo, hi0, loadCells, loadCellsFrom]
    | some q =>
      cases p <;> simp [Builtin.append_, run_underlying Try.underlying59, Builtin.lenOf, Builtin.firstCells, sizeOf, typeInfo, hi0, storeCells, loadCells, loadCellsFrom, hcap]
  unfold Oper.wp
  simp [execOp, ho, resolve, invoke, builtin, hs, hx, hrun, Result.andThen]
  exact h

/-- The last field's texts are stored as they were. -/
theorem joined_kept {N : Nat} {w : World} {o : List Fx} {x : Fx} {go cp : Nat} (h : OwnJ N w (.slice (some ⟨go, 0, none⟩) (o.length + 1) cp) (o ++ [x])) :
    OwnJ N (w.setCell ⟨go, o.length * 2 + 1, none⟩ x.sl) (.slice (some ⟨go, 0, none⟩) (o.length + 1) cp) (o ++ [x]) := by
  obtain ⟨⟨hrow, htx⟩, hap⟩ := h
  have hlen : (o ++ [x]).length = o.length + 1 := by simp
  rw [hlen] at hrow
  have hst := hrow.stored (o.length * 2 + 1) x.sl
  have hget := (cellsX_get (o ++ [x]) o.length (by simp)).2
  simp only [List.getElem_concat_length] at hget
  have e1 : (cellsX (o ++ [x])).set (o.length * 2 + 1) x.sl = cellsX (o ++ [x]) := by
    apply List.ext_getElem?
    intro j
    rw [List.getElem?_set]
    split
    · rename_i hj
      subst hj
      rw [if_pos (by rw [cellsX_len]; simp; omega)]
      exact hget.symm
    · rfl
  rw [e1] at hst
  refine ⟨⟨by rw [hlen]; exact hst.1, fun y hy => own_else (htx y hy) hrow (by decide) (grown_set w go _ _)⟩, hap⟩

/-- One field more, its texts in a new row. -/
theorem joined_put {N : Nat} {w w4 : World} {v v' : Value} {o : List Fx} {x : Fx} {M : Nat} (h : OwnJ N w v o) (hx : OwnT M w x.sl x.txt) (hM : ∀ y ∈ o, ∀ k, y.sl.ownBlock = some k → k < M) (hNM : N ≤ M)
    (hown : w4.ownsRow N 61 2 v' (o.length + 1) (cellsX o ++ cellsX [x])) (hg : w.grownBy w4 v.ownBlock) : OwnJ N w4 v' (o ++ [x]) := by
  refine ⟨h.1.put (own_weak hx hNM) hown hg, apart_snoc h.2 fun y hy => ?_⟩
  rcases hb : y.sl.ownBlock with _ | k
  · exact Or.inl rfl
  · right
    intro e
    have h1 := hM y hy k hb
    have h2 := (World.ownsRow.lt hx k e.symm).1
    omega

theorem two_one (n : ByteArray) (p : Option Addr) (k c : Nat) : ∀ u ∈ [Value.string n, Value.slice p k c], u.oneCell' = true := by
  intro u hu
  simp at hu
  rcases hu with rfl | rfl <;> rfl

/-- The field f lies in a block of its own. -/
def NewX (w : World) (B : Nat) (f : Fx) : Prop := w.heap[B]? = some (.cells #[.string f.name, .slice f.p f.txt.length f.cap] 61 (0, 0))

/-- An append of one field, at a step of a region that draws. -/
theorem step_putX {ops : Array Oper} {o : Oper} {a : Act} {K : Act → World → Prop} {Q : Exit → Act → World → Prop} {E : Prop} (w : World) (hgd : o.guard = none) (s x : Operand)
    (ho : o.op = .call { callee := .builtin .append, args := #[s, x], argTypes := #[31, 31] }) (N : Nat) (v : Value) (os : List Fx) (n : Nat) (hs : a.eval s = v) (hoj : OwnJ N w v os) (hn : os.length = n) (B : Nat) (f : Fx)
    (hx : a.eval x = .slice (some ⟨B, 0, none⟩) 1 1) (hB : NewX w B f) (hl : (n + 1) * 40 ≤ 140737488355328) (hN : N ≤ w.heap.size)
    (h : ∀ g cap w', w'.ownsRow N 61 2 (.slice (some ⟨g, 0, none⟩) (n + 1) cap) (n + 1) (cellsX os ++ cellsX [f]) → w.grownBy w' v.ownBlock → K (a.put o.dst (.slice (some ⟨g, 0, none⟩) (n + 1) cap)) w') :
    if Region.wanted o (yielded ops a.tmps) = true then Oper.wp Try.prog o a w K Q else E := by
  subst hn
  obtain ⟨j0, hj, hj0, hj1, hj2⟩ := info_parts Try.infoFld
  refine step_append_lies w hgd s x 31 ho N 61 j0 (.agg #[.string ⟨#[]⟩, .slice none 0 0]) 2 40 Try.underlying31 hj hj0 hj1 hj2 rfl (by decide) v os.length (cellsX os) hs hoj.1.1 ⟨B, 0, none⟩ 1 1 (cellsX [f]) hx rfl (fun j u hju => ?_) (cellsX_one _) (by decide) (by unfold maxLen; omega) hl hN _ rfl (fun g cap w' h1 h2 _ _ => h g cap w' h1 h2)
  exact World.news_of_block hB j u hju

/-- The state of joined's loop. -/
def JoinSt (w2 : World) (ds : List Fx) (i : Nat) (v : Value) (wr : World) : Prop :=
  ∃ o : List Fx, OwnJ w2.heap.size wr v o ∧ o.map Fx.fld = joinS ((ds.map Fx.fld).take i) ∧ Below w2.heap.size w2 wr

theorem sl_shape {n0 : Nat} {w : World} {x : Fx} (h : OwnT n0 w x.sl x.txt) : x.txt.length ≤ x.cap ∧ (x.p = none → x.txt.length = 0 ∧ x.cap = 0) := by
  rcases h.2 with ⟨hv, h0⟩ | ⟨g, cap, cur, hv, _, _, h1, _⟩
  · unfold Fx.sl at hv
    injection hv with h1 h2 h3
    rw [h0, h3]
    exact ⟨Nat.le_refl _, fun _ => ⟨rfl, rfl⟩⟩
  · unfold Fx.sl at hv
    injection hv with h3 h4 h5
    rw [h5]
    exact ⟨h1, fun h => by rw [h3] at h; cases h⟩

/-- ds is d, sorted by name, equals in their order. -/
def SortOf (d ds : List Fx) : Prop := ds.Perm d ∧ (ds.Pairwise fun x y => ltOf cmpF y x = false) ∧ ∀ c, ds.filter (fun x => decide (x.name = c)) = d.filter fun x => decide (x.name = c)

def JoinPost (w : World) (d : List Fx) (e : Ending) (w' : World) : Prop :=
  ∃ (u : Value) (ds o : List Fx), e = .returned u ∧ SortOf d ds ∧ OwnJ w.heap.size w' u o ∧ o.map Fx.fld = joinS (ds.map Fx.fld) ∧ Below w.heap.size w w'

end Go.Proofs.Ytipbdpjnabeilaa

/-
  An append of a row that came in, whatever its length; a row of fields whose texts lie elsewhere.
-/
namespace Go.Proofs.Ytipbdpjnabeilaa
open Go.RowKit Go.Lib

theorem grownBy_refl (w : World) (g : Option Nat) : w.grownBy w g := ⟨rfl, rfl, rfl, Nat.le_refl _, fun _ _ _ => rfl⟩

theorem wpList_append_rows {ops : Array Oper} {rest : List Oper} {o : Oper} {a : Act} {Q : Exit → Act → World → Prop} (w : World) (hgd : o.guard = none) (s x : Operand) (t : TypeId)
    (ho : o.op = .call { callee := .builtin .append, args := #[s, x], argTypes := #[t, t] })
    (base : Nat) (e : TypeId) (i : TypeInfo) (z : Value) (size bytes : Nat) (ht : Try.prog.underlying t = some (.slice e)) (hi : Try.prog.info? e = some i) (hz : i.zero = some z)
    (hsize : i.size = size) (hby : i.bytes = bytes) (hzs : z.cells.size = size) (hsz : 0 < size)
    (v : Value) (n : Nat) (xs : List Value) (hs : a.eval s = v) (hown : w.ownsRow base e size v n xs)
    (p : Option Addr) (m c : Nat) (news : List Value) (hx : a.eval x = .slice p m c) (hl : news.length = m * size)
    (hsrc : m = 0 ∨ ∃ ad, p = some ad ∧ ∀ j u, news[j]? = some u → w.cell? (ad.add j) = some u) (h1 : ∀ u ∈ news, u.oneCell' = true)
    (h63 : n + m ≤ maxLen) (hbytes : (n + m) * bytes ≤ 140737488355328) (hbase : base ≤ w.heap.size)
    (h : ∀ v' w', w'.ownsRow base e size v' (n + m) (xs ++ news) → w.grownBy w' v.ownBlock → wpList Try.prog ops Q rest (a.put o.dst v') w') :
    wpList Try.prog ops Q (o :: rest) a w := by
  rcases hsrc with rfl | ⟨ad, rfl, hc⟩
  · have hn : news = [] := List.length_eq_zero_iff.1 (by simpa using hl)
    subst hn
    obtain ⟨q, cap, hv, hcap, hq⟩ : ∃ q cap, v = .slice q n cap ∧ n ≤ cap ∧ (q = none → n = 0 ∧ cap = 0) := by
      rcases hown.2 with ⟨hv, h0⟩ | ⟨g, cap, cur, hv, _, _, hc, _⟩
      · exact ⟨none, 0, by rw [hv, h0], by omega, fun _ => ⟨h0, rfl⟩⟩
      · exact ⟨_, cap, hv, hc, fun h => by cases h⟩
    have hrun : (Builtin.append_ #[t, t] o.type #[.slice q n cap, .slice p 0 c]).run Try.prog w = .ok (.slice q n cap) w := by
      cases q with
      | none =>
        obtain ⟨rfl, rfl⟩ := hq rfl
        cases p <;> simp [Builtin.append_, run_underlying ht, Builtin.lenOf, Builtin.firstCells, sizeOf, typeInfo, hi, loadCells, loadCellsFrom]
      | some q =>
        cases p <;> simp [Builtin.append_, run_underlying ht, Builtin.lenOf, Builtin.firstCells, sizeOf, typeInfo, hi, storeCells, loadCells, loadCellsFrom, hcap]
    rw [hv] at hs
    refine wpList_plain hgd fun K hK' => ?_
    unfold Oper.wp
    simp [execOp, ho, resolve, invoke, builtin, hs, hx, hrun, Result.andThen]
    refine hK' _ _ (h _ _ ?_ (grownBy_refl _ _))
    rw [← hv, List.append_nil]
    exact hown
  · exact wpList_append_own _ hgd s x t ho base e i z size bytes ht hi hz hsize hby hzs hsz v n xs hs hown ad m c news hx hl hc h1 h63 hbytes hbase (fun v' w' h2 h3 _ => h v' w' h2 h3)

/-- v owns a row of the fields d, in a block at or behind n0; their texts lie anywhere. -/
def RowX (n0 : Nat) (w : World) (v : Value) (d : List Fx) : Prop := w.ownsRow n0 61 2 v d.length (cellsX d)

theorem RowX.is {n0 : Nat} {w : World} {v : Value} {d : List Fx} (h1 : RowX n0 w v d) (h2 : ∀ x ∈ d, x.at w) : IsXs w v d := by
  rcases h1.2 with ⟨rfl, h0⟩ | ⟨g, c, cur, rfl, _, hg, _, _, hsz, htk⟩
  · obtain rfl := List.length_eq_zero_iff.1 h0
    exact ⟨none, 0, rfl, Or.inl rfl, fun x hx => by simp at hx⟩
  · refine ⟨_, c, rfl, Or.inr ⟨g, 0, rfl, fun i hi => ?_⟩, h2⟩
    obtain ⟨c0, c1⟩ := cellsX_get d i hi
    have e : ∀ j, j < d.length * 2 → (cellsX d)[j]? = cur[j]? := fun j hj => by
      rw [← htk, List.getElem?_take, if_pos hj, Array.getElem?_toList]
    rw [Nat.zero_add, cell_of_row w g _ cur _ _ hg, cell_of_row w g _ cur _ _ hg, ← e _ (by omega), ← e _ (by omega)]
    exact ⟨c0, c1⟩

/-- What a slice of fields gives an append. -/
theorem src_xs {w : World} {p : Option Addr} {d : List Fx} (h : d = [] ∨ ∃ b off, p = some ⟨b, off, none⟩ ∧ XsAt w b off d) :
    d.length = 0 ∨ ∃ ad, p = some ad ∧ ∀ j u, (cellsX d)[j]? = some u → w.cell? (ad.add j) = some u := by
  rcases h with rfl | ⟨b, off, rfl, hx⟩
  · exact Or.inl rfl
  · refine Or.inr ⟨_, rfl, fun j u hu => ?_⟩
    have hj : j < d.length * 2 := by
      have := (List.getElem?_eq_some_iff.1 hu).1
      rwa [cellsX_len] at this
    have hk : j / 2 < d.length := by omega
    obtain ⟨c0, c1⟩ := cellsX_get d (j / 2) hk
    obtain ⟨m0, m1⟩ := hx (j / 2) hk
    rw [addr_add]
    by_cases e : j % 2 = 0
    · have ej : j = j / 2 * 2 := by omega
      rw [ej] at hu ⊢
      rw [c0] at hu
      rw [m0]; exact hu
    · have ej : j = j / 2 * 2 + 1 := by omega
      rw [ej] at hu ⊢
      rw [c1] at hu
      rw [← Nat.add_assoc, m1]; exact hu

/-- What a slice of texts gives an append. -/
theorem src_ts {w : World} {p : Option Addr} {ts : List ByteArray} (h : TxtAt w p ts) :
    ts.length = 0 ∨ ∃ ad, p = some ad ∧ ∀ j u, (ts.map Value.string)[j]? = some u → w.cell? (ad.add j) = some u := by
  rcases h with rfl | ⟨b, off, rfl, hx⟩
  · exact Or.inl rfl
  · refine Or.inr ⟨_, rfl, fun j u hu => ?_⟩
    have hj : j < ts.length := by simpa using (List.getElem?_eq_some_iff.1 hu).1
    rw [addr_add, hx j hj]
    rw [List.getElem?_map, List.getElem?_eq_getElem hj] at hu
    exact hu

theorem txts_one (ts : List ByteArray) : ∀ u ∈ ts.map Value.string, u.oneCell' = true := by
  intro u hu
  obtain ⟨t, _, rfl⟩ := List.mem_map.1 hu
  rfl

/-- What the reference's Texts answers. -/
def RtPost (w : World) (ts : List ByteArray) (e : Ending) (w' : World) : Prop := (∃ p c, e = .returned (.slice p ts.length c) ∧ TxtAt w p ts) ∧ w' = w

end Go.Proofs.Ytipbdpjnabeilaa
