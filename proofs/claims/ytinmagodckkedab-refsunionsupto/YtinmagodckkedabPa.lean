/-
  Texts of this claim, one behind the other: Plain Leaf Spell Spk Shelf Ix Cut Kys Zcmp Zeq Zcomp2 Zord Zsortz Zkrow Zsame Zcompa Zrise Zsorta Zless Zputa Zput.
-/
import GoSem.Claim
import Derived.Test.YtinmagodckkedabProg
import Derived.WalkKit
import Derived.WalkSpells
import Derived.WalkLawsBesides
import Derived.Shelf.Small.Bits
import Derived.Shelf.Small.Strs
import Derived.Shelf.Small.Wraps
import Derived.Shelf.Strconv.Itoa0
import Derived.Shelf.Strings.Search1
import Derived.Shelf.Strings.Search2
import Derived.Shelf.Sort.Plain
import Derived.Shelf.Strings.Prefix
import Derived.Shelf.Slices.Turned
import Derived.Shelf.Slices.CompactS
import Derived.Shelf.Slices.Cells
import Derived.Shelf.Slices.In.SortNone
import Derived.Shelf.SlGeneric
import Derived.Shelf.SlicesE.Clone
import Derived.Shelf.SlicesQ.IndexFunc
import Derived.Shelf.SlSortCmp.InsertionK
import Derived.Ground.NamesProg
import Derived.Shelf.Lays
import Derived.Ground.SlgfProg
import Derived.Ground.SlgnProg
import Derived.Ground.SlsfProg
import Derived.Shelf.SlLaysE0
import Derived.Shelf.SlLaysF0
import Derived.Shelf.SlLaysH0
import Derived.Lib.Bytealg
import Derived.Lib.IndexBytes
import Derived.Deep.QuietTactic
import Derived.BigQuiet
import Derived.Deep.RegionHeld3
import Derived.Deep.DrawnRows
import Derived.LoopN
import Derived.Laws.StructEq
import Derived.Lib.SliceRun
import Derived.Shelf.SlSortCmp.WholeK
import Derived.Laws.OwnMore
import Derived.Lib.SlicesCompact
import Derived.Deep.LoopGhost
import Derived.OwnWalk
import Derived.Deep.AppendLies
/-
  The plain mathematics of package name: which bytes and which texts are what, with no word of the program.
-/
namespace Go.Proofs.Ytinmagodckkedab

def bigB (n : Int) : Bool := decide (65 ≤ n) && decide (n ≤ 90)
def smallB (n : Int) : Bool := decide (97 ≤ n) && decide (n ≤ 122)
def digB (n : Int) : Bool := decide (48 ≤ n) && decide (n ≤ 57)
def letB (n : Int) : Bool := bigB n || smallB n
def lodB (n : Int) : Bool := letB n || digB n
def idB (n : Int) : Bool := lodB n || n == 45 || n == 46

theorem bigB_true {n : Int} : bigB n = true ↔ 65 ≤ n ∧ n ≤ 90 := by simp [bigB]
theorem smallB_true {n : Int} : smallB n = true ↔ 97 ≤ n ∧ n ≤ 122 := by simp [smallB]
theorem digB_true {n : Int} : digB n = true ↔ 48 ≤ n ∧ n ≤ 57 := by simp [digB]

/-- A text of 1 to 32 bytes: the first as f says, each behind it as g says. -/
def spell (f g : Int → Bool) (l : List UInt8) : Bool :=
  match l with
  | [] => false
  | c :: r => decide (r.length + 1 ≤ 32) && f (c.toNat : Int) && r.all fun x => g (x.toNat : Int)

def typeB (l : List UInt8) : Bool := spell bigB letB l
def idenB (l : List UInt8) : Bool := spell idB idB l
def fieldB (l : List UInt8) : Bool := spell smallB lodB l
def tempB (l : List UInt8) : Bool := spell lodB lodB l

theorem spell_unfold (f g : Int → Bool) (s : ByteArray) (h : 0 < s.size) :
    spell f g s.data.toList = (decide (s.size ≤ 32) && f (s[0].toNat : Int) && (s.data.toList.drop 1).all fun x => g (x.toNat : Int)) := by
  obtain ⟨⟨l⟩⟩ := s
  cases l with
  | nil => exact absurd h (Nat.lt_irrefl 0)
  | cons c r => rfl

theorem spell_empty (f g : Int → Bool) (s : ByteArray) (h : s.size = 0) : spell f g s.data.toList = false := by
  obtain ⟨⟨l⟩⟩ := s
  cases l with
  | nil => rfl
  | cons c r => exact absurd h (Nat.succ_ne_zero _)

theorem spell_long (f g : Int → Bool) (s : ByteArray) (h : 32 < s.size) : spell f g s.data.toList = false := by
  rw [spell_unfold f g s (by omega)]
  have : ¬ s.size ≤ 32 := by omega
  simp [this]

theorem spell_first (f g : Int → Bool) (s : ByteArray) (h : 0 < s.size) (hf : f (s[0].toNat : Int) = false) : spell f g s.data.toList = false := by
  rw [spell_unfold f g s h]
  simp [hf]

theorem byte_at (s : ByteArray) (k : Nat) (h : k < s.size) : s.data.toList[k]'(by simpa using h) = s[k] := rfl

theorem spell_at (f g : Int → Bool) (s : ByteArray) (k : Nat) (h1 : 1 ≤ k) (h : k < s.size) (hg : g (s[k].toNat : Int) = false) : spell f g s.data.toList = false := by
  rw [spell_unfold f g s (by omega)]
  have : ((s.data.toList.drop 1).all fun x => g (x.toNat : Int)) = false := by
    rw [Bool.eq_false_iff]
    intro hall
    rw [List.all_eq_true] at hall
    have hl : k < s.data.toList.length := by simpa using h
    have hm : s[k] ∈ s.data.toList.drop 1 := by
      rw [← byte_at s k h, List.mem_iff_getElem]
      refine ⟨k - 1, by simp at hl ⊢; omega, ?_⟩
      rw [List.getElem_drop]
      congr 1
      omega
    have := hall _ hm
    rw [hg] at this
    cases this
  rw [this]; simp

theorem spell_true (f g : Int → Bool) (s : ByteArray) (h : 0 < s.size) (h32 : s.size ≤ 32) (hf : f (s[0].toNat : Int) = true)
    (hg : ∀ k, 1 ≤ k → (hk : k < s.size) → g (s[k].toNat : Int) = true) : spell f g s.data.toList = true := by
  rw [spell_unfold f g s h]
  have : ((s.data.toList.drop 1).all fun x => g (x.toNat : Int)) = true := by
    rw [List.all_eq_true]
    intro x hx
    rw [List.mem_iff_getElem] at hx
    obtain ⟨j, hj, rfl⟩ := hx
    rw [List.getElem_drop]
    have hj2 : 1 + j < s.size := by simp at hj; omega
    exact hg (1 + j) (by omega) hj2
  rw [this]; simp [h32, hf]

end Go.Proofs.Ytinmagodckkedab

/-
  The contracts of the functions that look at one byte.
-/
namespace Go.Proofs.Ytinmagodckkedab
open Go.RowKit

theorem hid {p : Prop} (h : p) : Hid p := h
theorem ret_bool {a b : Bool} (h : a = b) : Ending.returned (.bool a) = .returned (.bool b) := by rw [h]
theorem ret_int {k : IntKind} {a b : Int} (h : a = b) : Ending.returned (.int k a) = .returned (.int k b) := by rw [h]

set_option maxHeartbeats 400000 in
theorem big_any (n : Int) (w : World) : Calls Try.prog 60 #[.int .u8 n] w fun e w' => e = .returned (.bool (bigB n)) ∧ w' = w := by
  go_enter Try.func60, Try.ntmps60
  go_wp2
  all_goals go_ret
  all_goals refine ⟨ret_bool ?_, rfl⟩
  all_goals (rw [Bool.eq_iff_iff]; simp [bigB]; try omega)

set_option maxHeartbeats 400000 in
theorem small_any (n : Int) (w : World) : Calls Try.prog 79 #[.int .u8 n] w fun e w' => e = .returned (.bool (smallB n)) ∧ w' = w := by
  go_enter Try.func79, Try.ntmps79
  go_wp2
  all_goals go_ret
  all_goals refine ⟨ret_bool ?_, rfl⟩
  all_goals (rw [Bool.eq_iff_iff]; simp [smallB]; try omega)

set_option maxHeartbeats 400000 in
theorem letter_any (n : Int) (w : World) : Calls Try.prog 59 #[.int .u8 n] w fun e w' => e = .returned (.bool (letB n)) ∧ w' = w := by
  go_enter Try.func59, Try.ntmps59
  go_wp2
  all_goals go_ret
  all_goals refine ⟨ret_bool ?_, rfl⟩
  all_goals (rw [Bool.eq_iff_iff]; simp [letB, bigB, smallB]; try omega)

set_option maxHeartbeats 400000 in
theorem lod_any (n : Int) (w : World) : Calls Try.prog 40 #[.int .u8 n] w fun e w' => e = .returned (.bool (lodB n)) ∧ w' = w := by
  go_enter Try.func40, Try.ntmps40
  go_wp2
  all_goals go_ret
  all_goals refine ⟨ret_bool ?_, rfl⟩
  all_goals (rw [Bool.eq_iff_iff]; simp [lodB, digB, letB, bigB, smallB]; try omega)

end Go.Proofs.Ytinmagodckkedab

/-
  The contracts of spelled, and of the four words that stand on it.
-/
namespace Go.Proofs.Ytinmagodckkedab
open Go.RowKit

theorem nat_pos {n : Nat} (h : ¬ (n : Int) < 1) : 0 < n := by omega

set_option maxHeartbeats 800000 in
theorem spelled_field (s : ByteArray) (w : World) (hs : s.size ≤ maxLen) :
    Calls Try.prog 39 #[.string s, .func (.func 79) #[] #[], .func (.func 40) #[] #[]] w fun e w' => e = .returned (.bool (fieldB s.data.toList)) ∧ w' = w := by
  unfold maxLen at hs
  by_cases he : s.size = 0
  · have hb := spell_empty smallB lodB s he
    have hlt : (s.size : Int) < 1 := by omega
    have HB : Hid (spell smallB lodB s.data.toList = false) := hb
    clear he hb
    go_enter Try.func39, Try.ntmps39
    go_wp2_with fail
    go_ret
    exact ⟨ret_bool HB.out.symm, rfl⟩
  have hpos : 0 < s.size := by omega
  have hnl : ¬ (s.size : Int) < 1 := by omega
  by_cases hl : 32 < s.size
  · have hb := spell_long smallB lodB s hl
    have HB : Hid (spell smallB lodB s.data.toList = false) := hb
    have hgt : (32 : Int) < (s.size : Int) := by omega
    clear he hb
    go_enter Try.func39, Try.ntmps39
    go_wp2_with fail
    go_ret
    exact ⟨ret_bool HB.out.symm, rfl⟩
  have hle : ¬ (32 : Int) < (s.size : Int) := by omega
  clear he
  cases hc : smallB (s[0].toNat : Int) with
  | false =>
    have HB : Hid (spell smallB lodB s.data.toList = false) := spell_first smallB lodB s hpos hc
    go_enter Try.func39, Try.ntmps39
    go_wp2_with (go_at_call 79; refine (small_any _ _).mono ?_; rintro e w' ⟨rfl, rfl⟩)
    go_ret
    exact ⟨ret_bool HB.out.symm, rfl⟩
  | true =>
    have HT : Hid ((∀ k, 1 ≤ k → (hk : k < s.size) → lodB (s[k].toNat : Int) = true) → spell smallB lodB s.data.toList = true) := spell_true smallB lodB s hpos (by omega) hc
    have HA : Hid (∀ k, 1 ≤ k → (hk : k < s.size) → lodB (s[k].toNat : Int) = false → spell smallB lodB s.data.toList = false) := fun k h1 hk => spell_at smallB lodB s k h1 hk
    go_enter Try.func39, Try.ntmps39
    go_wp2_with (go_at_call 79; refine (small_any _ _).mono ?_; rintro e w' ⟨rfl, rfl⟩)
    go_loop [7] (fun i => ∃ k : Nat, 1 ≤ k ∧ k ≤ s.size ∧ i = .int .i64 k ∧ (∀ j, 1 ≤ j → j < k → (hj : j < s.size) → lodB (s[j].toNat : Int) = true)) (fun i => s.size - (intOf i).toNat)
    case atStart => exact ⟨1, by omega, by omega, rfl, fun j h1 h2 => by omega⟩
    case round =>
      obtain ⟨k, hk1, hk, rfl, hall⟩ := hrel
      have HL : Hid (∀ j, 1 ≤ j → j < k → (hj : j < s.size) → lodB (s[j].toNat : Int) = true) := hall
      clear hall
      by_cases hlt : k < s.size
      · cases hd : lodB (s[k].toNat : Int) with
        | false =>
          go_wp2_with (go_at_call 40; refine (lod_any _ _).mono ?_; rintro e w' ⟨rfl, rfl⟩)
          go_ret
          exact ⟨ret_bool (HA.out k hk1 hlt hd).symm, rfl⟩
        | true =>
          go_wp2_with (go_at_call 40; refine (lod_any _ _).mono ?_; rintro e w' ⟨rfl, rfl⟩)
          go_round
          case rel =>
            refine ⟨k + 1, by omega, by omega, by go_num, fun j h1 h2 hj => ?_⟩
            by_cases hjk : j = k
            · subst hjk; exact hd
            · exact HL.out j h1 (by omega) hj
          case measure => simp [intOf]; omega
      · go_wp2_with fail
        go_ret
        exact ⟨ret_bool (HT.out fun j h1 hj => HL.out j h1 (by omega) hj).symm, rfl⟩

end Go.Proofs.Ytinmagodckkedab

/-
  The contracts of Type, ID and Temp of package name.
-/
namespace Go.Proofs.Ytinmagodckkedab
open Go.RowKit

set_option maxHeartbeats 1000000 in
theorem id_any (n : Int) (w : World) : Calls Try.prog 61 #[.int .u8 n] w fun e w' => e = .returned (.bool (idB n)) ∧ w' = w := by
  go_enter Try.func61, Try.ntmps61
  go_wp2
  all_goals go_ret
  all_goals refine ⟨ret_bool ?_, rfl⟩
  all_goals (rw [Bool.eq_iff_iff]; simp_all [idB, lodB, digB, letB, bigB, smallB]; try omega)

set_option maxHeartbeats 1000000 in
theorem spelled_type (s : ByteArray) (w : World) (hs : s.size ≤ maxLen) :
    Calls Try.prog 39 #[.string s, .func (.func 60) #[] #[], .func (.func 59) #[] #[]] w fun e w' => e = .returned (.bool (typeB s.data.toList)) ∧ w' = w := by
  unfold maxLen at hs
  by_cases he : s.size = 0
  · have hb := spell_empty bigB letB s he
    have hlt : (s.size : Int) < 1 := by omega
    have HB : Hid (spell bigB letB s.data.toList = false) := hb
    clear he hb
    go_enter Try.func39, Try.ntmps39
    go_wp2_with fail
    go_ret
    exact ⟨ret_bool HB.out.symm, rfl⟩
  have hpos : 0 < s.size := by omega
  have hnl : ¬ (s.size : Int) < 1 := by omega
  by_cases hl : 32 < s.size
  · have hb := spell_long bigB letB s hl
    have HB : Hid (spell bigB letB s.data.toList = false) := hb
    have hgt : (32 : Int) < (s.size : Int) := by omega
    clear he hb
    go_enter Try.func39, Try.ntmps39
    go_wp2_with fail
    go_ret
    exact ⟨ret_bool HB.out.symm, rfl⟩
  have hle : ¬ (32 : Int) < (s.size : Int) := by omega
  clear he
  cases hc : bigB (s[0].toNat : Int) with
  | false =>
    have HB : Hid (spell bigB letB s.data.toList = false) := spell_first bigB letB s hpos hc
    go_enter Try.func39, Try.ntmps39
    go_wp2_with (go_at_call 60; refine (big_any _ _).mono ?_; rintro e w' ⟨rfl, rfl⟩)
    go_ret
    exact ⟨ret_bool HB.out.symm, rfl⟩
  | true =>
    have HT : Hid ((∀ k, 1 ≤ k → (hk : k < s.size) → letB (s[k].toNat : Int) = true) → spell bigB letB s.data.toList = true) := spell_true bigB letB s hpos (by omega) hc
    have HA : Hid (∀ k, 1 ≤ k → (hk : k < s.size) → letB (s[k].toNat : Int) = false → spell bigB letB s.data.toList = false) := fun k h1 hk => spell_at bigB letB s k h1 hk
    go_enter Try.func39, Try.ntmps39
    go_wp2_with (go_at_call 60; refine (big_any _ _).mono ?_; rintro e w' ⟨rfl, rfl⟩)
    go_loop [7] (fun i => ∃ k : Nat, 1 ≤ k ∧ k ≤ s.size ∧ i = .int .i64 k ∧ (∀ j, 1 ≤ j → j < k → (hj : j < s.size) → letB (s[j].toNat : Int) = true)) (fun i => s.size - (intOf i).toNat)
    case atStart => exact ⟨1, by omega, by omega, rfl, fun j h1 h2 => by omega⟩
    case round =>
      obtain ⟨k, hk1, hk, rfl, hall⟩ := hrel
      have HL : Hid (∀ j, 1 ≤ j → j < k → (hj : j < s.size) → letB (s[j].toNat : Int) = true) := hall
      clear hall
      by_cases hlt : k < s.size
      · cases hd : letB (s[k].toNat : Int) with
        | false =>
          go_wp2_with (go_at_call 59; refine (letter_any _ _).mono ?_; rintro e w' ⟨rfl, rfl⟩)
          go_ret
          exact ⟨ret_bool (HA.out k hk1 hlt hd).symm, rfl⟩
        | true =>
          go_wp2_with (go_at_call 59; refine (letter_any _ _).mono ?_; rintro e w' ⟨rfl, rfl⟩)
          go_round
          case rel =>
            refine ⟨k + 1, by omega, by omega, by go_num, fun j h1 h2 hj => ?_⟩
            by_cases hjk : j = k
            · subst hjk; exact hd
            · exact HL.out j h1 (by omega) hj
          case measure => simp [intOf]; omega
      · go_wp2_with fail
        go_ret
        exact ⟨ret_bool (HT.out fun j h1 hj => HL.out j h1 (by omega) hj).symm, rfl⟩

set_option maxHeartbeats 1000000 in
theorem type_any (s : ByteArray) (w : World) (hs : s.size ≤ maxLen) :
    Calls Try.prog 41 #[.string s] w fun e w' => e = .returned (.bool (typeB s.data.toList)) ∧ w' = w := by
  go_enter Try.func41, Try.ntmps41
  go_wp2_with (go_at_call 39; refine (spelled_type _ _ hs).mono ?_; rintro e w' ⟨rfl, rfl⟩)
  go_ret
  exact ⟨rfl, rfl⟩

set_option maxHeartbeats 1000000 in
theorem spelled_iden (s : ByteArray) (w : World) (hs : s.size ≤ maxLen) :
    Calls Try.prog 39 #[.string s, .func (.func 61) #[] #[], .func (.func 61) #[] #[]] w fun e w' => e = .returned (.bool (idenB s.data.toList)) ∧ w' = w := by
  unfold maxLen at hs
  by_cases he : s.size = 0
  · have hb := spell_empty idB idB s he
    have hlt : (s.size : Int) < 1 := by omega
    have HB : Hid (spell idB idB s.data.toList = false) := hb
    clear he hb
    go_enter Try.func39, Try.ntmps39
    go_wp2_with fail
    go_ret
    exact ⟨ret_bool HB.out.symm, rfl⟩
  have hpos : 0 < s.size := by omega
  have hnl : ¬ (s.size : Int) < 1 := by omega
  by_cases hl : 32 < s.size
  · have hb := spell_long idB idB s hl
    have HB : Hid (spell idB idB s.data.toList = false) := hb
    have hgt : (32 : Int) < (s.size : Int) := by omega
    clear he hb
    go_enter Try.func39, Try.ntmps39
    go_wp2_with fail
    go_ret
    exact ⟨ret_bool HB.out.symm, rfl⟩
  have hle : ¬ (32 : Int) < (s.size : Int) := by omega
  clear he
  cases hc : idB (s[0].toNat : Int) with
  | false =>
    have HB : Hid (spell idB idB s.data.toList = false) := spell_first idB idB s hpos hc
    go_enter Try.func39, Try.ntmps39
    go_wp2_with (go_at_call 61; refine (id_any _ _).mono ?_; rintro e w' ⟨rfl, rfl⟩)
    go_ret
    exact ⟨ret_bool HB.out.symm, rfl⟩
  | true =>
    have HT : Hid ((∀ k, 1 ≤ k → (hk : k < s.size) → idB (s[k].toNat : Int) = true) → spell idB idB s.data.toList = true) := spell_true idB idB s hpos (by omega) hc
    have HA : Hid (∀ k, 1 ≤ k → (hk : k < s.size) → idB (s[k].toNat : Int) = false → spell idB idB s.data.toList = false) := fun k h1 hk => spell_at idB idB s k h1 hk
    go_enter Try.func39, Try.ntmps39
    go_wp2_with (go_at_call 61; refine (id_any _ _).mono ?_; rintro e w' ⟨rfl, rfl⟩)
    go_loop [7] (fun i => ∃ k : Nat, 1 ≤ k ∧ k ≤ s.size ∧ i = .int .i64 k ∧ (∀ j, 1 ≤ j → j < k → (hj : j < s.size) → idB (s[j].toNat : Int) = true)) (fun i => s.size - (intOf i).toNat)
    case atStart => exact ⟨1, by omega, by omega, rfl, fun j h1 h2 => by omega⟩
    case round =>
      obtain ⟨k, hk1, hk, rfl, hall⟩ := hrel
      have HL : Hid (∀ j, 1 ≤ j → j < k → (hj : j < s.size) → idB (s[j].toNat : Int) = true) := hall
      clear hall
      by_cases hlt : k < s.size
      · cases hd : idB (s[k].toNat : Int) with
        | false =>
          go_wp2_with (go_at_call 61; refine (id_any _ _).mono ?_; rintro e w' ⟨rfl, rfl⟩)
          go_ret
          exact ⟨ret_bool (HA.out k hk1 hlt hd).symm, rfl⟩
        | true =>
          go_wp2_with (go_at_call 61; refine (id_any _ _).mono ?_; rintro e w' ⟨rfl, rfl⟩)
          go_round
          case rel =>
            refine ⟨k + 1, by omega, by omega, by go_num, fun j h1 h2 hj => ?_⟩
            by_cases hjk : j = k
            · subst hjk; exact hd
            · exact HL.out j h1 (by omega) hj
          case measure => simp [intOf]; omega
      · go_wp2_with fail
        go_ret
        exact ⟨ret_bool (HT.out fun j h1 hj => HL.out j h1 (by omega) hj).symm, rfl⟩

set_option maxHeartbeats 1000000 in
theorem iden_any (s : ByteArray) (w : World) (hs : s.size ≤ maxLen) :
    Calls Try.prog 42 #[.string s] w fun e w' => e = .returned (.bool (idenB s.data.toList)) ∧ w' = w := by
  go_enter Try.func42, Try.ntmps42
  go_wp2_with (go_at_call 39; refine (spelled_iden _ _ hs).mono ?_; rintro e w' ⟨rfl, rfl⟩)
  go_ret
  exact ⟨rfl, rfl⟩

set_option maxHeartbeats 1000000 in
theorem spelled_temp (s : ByteArray) (w : World) (hs : s.size ≤ maxLen) :
    Calls Try.prog 39 #[.string s, .func (.func 40) #[] #[], .func (.func 40) #[] #[]] w fun e w' => e = .returned (.bool (tempB s.data.toList)) ∧ w' = w := by
  unfold maxLen at hs
  by_cases he : s.size = 0
  · have hb := spell_empty lodB lodB s he
    have hlt : (s.size : Int) < 1 := by omega
    have HB : Hid (spell lodB lodB s.data.toList = false) := hb
    clear he hb
    go_enter Try.func39, Try.ntmps39
    go_wp2_with fail
    go_ret
    exact ⟨ret_bool HB.out.symm, rfl⟩
  have hpos : 0 < s.size := by omega
  have hnl : ¬ (s.size : Int) < 1 := by omega
  by_cases hl : 32 < s.size
  · have hb := spell_long lodB lodB s hl
    have HB : Hid (spell lodB lodB s.data.toList = false) := hb
    have hgt : (32 : Int) < (s.size : Int) := by omega
    clear he hb
    go_enter Try.func39, Try.ntmps39
    go_wp2_with fail
    go_ret
    exact ⟨ret_bool HB.out.symm, rfl⟩
  have hle : ¬ (32 : Int) < (s.size : Int) := by omega
  clear he
  cases hc : lodB (s[0].toNat : Int) with
  | false =>
    have HB : Hid (spell lodB lodB s.data.toList = false) := spell_first lodB lodB s hpos hc
    go_enter Try.func39, Try.ntmps39
    go_wp2_with (go_at_call 40; refine (lod_any _ _).mono ?_; rintro e w' ⟨rfl, rfl⟩)
    go_ret
    exact ⟨ret_bool HB.out.symm, rfl⟩
  | true =>
    have HT : Hid ((∀ k, 1 ≤ k → (hk : k < s.size) → lodB (s[k].toNat : Int) = true) → spell lodB lodB s.data.toList = true) := spell_true lodB lodB s hpos (by omega) hc
    have HA : Hid (∀ k, 1 ≤ k → (hk : k < s.size) → lodB (s[k].toNat : Int) = false → spell lodB lodB s.data.toList = false) := fun k h1 hk => spell_at lodB lodB s k h1 hk
    go_enter Try.func39, Try.ntmps39
    go_wp2_with (go_at_call 40; refine (lod_any _ _).mono ?_; rintro e w' ⟨rfl, rfl⟩)
    go_loop [7] (fun i => ∃ k : Nat, 1 ≤ k ∧ k ≤ s.size ∧ i = .int .i64 k ∧ (∀ j, 1 ≤ j → j < k → (hj : j < s.size) → lodB (s[j].toNat : Int) = true)) (fun i => s.size - (intOf i).toNat)
    case atStart => exact ⟨1, by omega, by omega, rfl, fun j h1 h2 => by omega⟩
    case round =>
      obtain ⟨k, hk1, hk, rfl, hall⟩ := hrel
      have HL : Hid (∀ j, 1 ≤ j → j < k → (hj : j < s.size) → lodB (s[j].toNat : Int) = true) := hall
      clear hall
      by_cases hlt : k < s.size
      · cases hd : lodB (s[k].toNat : Int) with
        | false =>
          go_wp2_with (go_at_call 40; refine (lod_any _ _).mono ?_; rintro e w' ⟨rfl, rfl⟩)
          go_ret
          exact ⟨ret_bool (HA.out k hk1 hlt hd).symm, rfl⟩
        | true =>
          go_wp2_with (go_at_call 40; refine (lod_any _ _).mono ?_; rintro e w' ⟨rfl, rfl⟩)
          go_round
          case rel =>
            refine ⟨k + 1, by omega, by omega, by go_num, fun j h1 h2 hj => ?_⟩
            by_cases hjk : j = k
            · subst hjk; exact hd
            · exact HL.out j h1 (by omega) hj
          case measure => simp [intOf]; omega
      · go_wp2_with fail
        go_ret
        exact ⟨ret_bool (HT.out fun j h1 hj => HL.out j h1 (by omega) hj).symm, rfl⟩

set_option maxHeartbeats 1000000 in
theorem temp_any (s : ByteArray) (w : World) (hs : s.size ≤ maxLen) :
    Calls Try.prog 27 #[.string s] w fun e w' => e = .returned (.bool (tempB s.data.toList)) ∧ w' = w := by
  go_enter Try.func27, Try.ntmps27
  go_wp2_with (go_at_call 39; refine (spelled_temp _ _ hs).mono ?_; rintro e w' ⟨rfl, rfl⟩)
  go_ret
  exact ⟨rfl, rfl⟩

end Go.Proofs.Ytinmagodckkedab

/-
  The library's functions at this program's own numbers: the tables that tie each to the contract that the library proves once.
-/
namespace Go.Proofs
open Go.Shelf
def Try.lays106_ren : Go.Shelf.Ren := ⟨fun | 106 => 47 | 213 => 72 | 265 => 84 | n => n, fun | 9 => 9 | 3 => 3 | n => n, fun | n => n⟩
theorem Try.lays106 : Go.Proofs.Lays.n106 Try.prog Try.lays106_ren := {
  mixed := by kernel_rfl
  f106 := Try.func47.trans (congrArg some (by kernel_rfl))
  f213 := Try.func72.trans (congrArg some (by kernel_rfl))
  f265 := Try.func84.trans (congrArg some (by kernel_rfl))
  t3 := Try.underlying3
  a3 := Try.isAgg3
  z3 := Try.sizeOf3
  v3 := Try.zeroValue3
  t9 := Try.underlying9
  a9 := Try.isAgg9
  z9 := Try.sizeOf9
  v9 := Try.zeroValue9 }
open Go.RowKit in
theorem Try.strings_Compare (a b : ByteArray) (w : World) :
    Calls Try.prog 47 #[.string a, .string b] w fun e w' => e = .returned (.int .i64 (Lib.compareBytes a.data.toList b.data.toList)) ∧ w' = w := Any.strings_Compare Try.lays106 a b w
def Try.lays219_ren : Go.Shelf.Ren := ⟨fun | 219 => 80 | 217 => 86 | 225 => 87 | 224 => 88 | 267 => 89 | 266 => 91 | 314 => 92 | n => n, fun | 9 => 9 | 3 => 3 | 4 => 4 | 5 => 5 | 46 => 70 | 146 => 113 | 51 => 90 | n => n, fun | 1 => 0 | n => n⟩
theorem Try.lays219 : Go.Proofs.Lays.n219 Try.prog Try.lays219_ren := {
  mixed := by kernel_rfl
  f217 := Try.func86.trans (congrArg some (by kernel_rfl))
  f219 := Try.func80.trans (congrArg some (by kernel_rfl))
  f224 := Try.func88.trans (congrArg some (by kernel_rfl))
  f225 := Try.func87.trans (congrArg some (by kernel_rfl))
  f266 := Try.func91.trans (congrArg some (by kernel_rfl))
  f267 := Try.func89.trans (congrArg some (by kernel_rfl))
  f314 := Try.func92.trans (congrArg some (by kernel_rfl))
  t3 := Try.underlying3
  a3 := Try.isAgg3
  z3 := Try.sizeOf3
  v3 := Try.zeroValue3
  t4 := Try.underlying4
  a4 := Try.isAgg4
  z4 := Try.sizeOf4
  v4 := Try.zeroValue4
  t5 := Try.underlying5
  a5 := Try.isAgg5
  z5 := Try.sizeOf5
  v5 := Try.zeroValue5
  t9 := Try.underlying9
  a9 := Try.isAgg9
  z9 := Try.sizeOf9
  v9 := Try.zeroValue9
  t46 := Try.underlying70
  a46 := Try.isAgg70
  z46 := Try.sizeOf70
  v46 := Try.zeroValue70
  t51 := Try.underlying90
  a51 := Try.isAgg90
  z51 := Try.sizeOf90
  v51 := Try.zeroValue90
  t146 := Try.underlying113
  a146 := Try.isAgg113
  z146 := Try.sizeOf113
  v146 := Try.zeroValue113
  g1 := by kernel_rfl }
open Go.RowKit Go.Lib in
theorem Try.stringslite_Index_one (s : ByteArray) (c : UInt8) (w : World) :
    Calls Try.prog 80 #[.string s, .string ⟨#[c]⟩] w fun e w' => e = .returned (.int .i64 (Lib.indexByte s.data.toList c)) ∧ w' = w := Any.stringslite_Index_one Try.lays219 s c w
def Try.lays125_ren : Go.Shelf.Ren := ⟨fun | 125 => 36 | 128 => 57 | 129 => 58 | n => n, fun | 46 => 70 | 3 => 3 | 51 => 90 | 53 => 92 | 4 => 4 | 5 => 5 | 9 => 9 | n => n, fun | n => n⟩
theorem Try.lays125 : Go.Proofs.Lays.n125 Try.prog Try.lays125_ren := {
  mixed := by kernel_rfl
  f125 := Try.func36.trans (congrArg some (by kernel_rfl))
  f128 := Try.func57.trans (congrArg some (by kernel_rfl))
  f129 := Try.func58.trans (congrArg some (by kernel_rfl))
  t3 := Try.underlying3
  a3 := Try.isAgg3
  z3 := Try.sizeOf3
  v3 := Try.zeroValue3
  t4 := Try.underlying4
  a4 := Try.isAgg4
  z4 := Try.sizeOf4
  v4 := Try.zeroValue4
  t5 := Try.underlying5
  a5 := Try.isAgg5
  z5 := Try.sizeOf5
  v5 := Try.zeroValue5
  t9 := Try.underlying9
  a9 := Try.isAgg9
  z9 := Try.sizeOf9
  v9 := Try.zeroValue9
  t46 := Try.underlying70
  a46 := Try.isAgg70
  z46 := Try.sizeOf70
  v46 := Try.zeroValue70
  t51 := Try.underlying90
  a51 := Try.isAgg90
  z51 := Try.sizeOf90
  v51 := Try.zeroValue90
  t53 := Try.underlying92
  a53 := Try.isAgg92
  z53 := Try.sizeOf92
  v53 := Try.zeroValue92 }
theorem Try.bits_Len (x : Int) (w : World) (h0 : 0 ≤ x) (h1 : x ≤ 18446744073709551615) :
    Calls Try.prog 36 #[.int .u64 x] w fun e w' => e = .returned (.int .i64 (Lib.bitLen x.toNat)) ∧ w' = w := Any.bits_Len Try.lays125 x w h0 h1
def Try.lays103_ren : Go.Shelf.Ren := ⟨fun | 103 => 29 | 210 => 43 | 206 => 62 | n => n, fun | 9 => 9 | 4 => 4 | 24 => 50 | 3 => 3 | n => n, fun | n => n⟩
theorem Try.lays103 : Go.Proofs.Lays.n103 Try.prog Try.lays103_ren := {
  mixed := by kernel_rfl
  f103 := Try.func29.trans (congrArg some (by kernel_rfl))
  f206 := Try.func62.trans (congrArg some (by kernel_rfl))
  f210 := Try.func43.trans (congrArg some (by kernel_rfl))
  t3 := Try.underlying3
  a3 := Try.isAgg3
  z3 := Try.sizeOf3
  v3 := Try.zeroValue3
  t4 := Try.underlying4
  a4 := Try.isAgg4
  z4 := Try.sizeOf4
  v4 := Try.zeroValue4
  t9 := Try.underlying9
  a9 := Try.isAgg9
  z9 := Try.sizeOf9
  v9 := Try.zeroValue9
  t24 := Try.underlying50
  a24 := Try.isAgg50
  z24 := Try.sizeOf50
  v24 := Try.zeroValue50 }
open Go.RowKit in
theorem Try.strings_CutPrefix (s p : ByteArray) (w : World) :
    Calls Try.prog 29 #[.string s, .string p] w fun e w' => e = .returned (.tuple #[.string ⟨(Lib.trimPrefix s.data.toList p.data.toList).toArray⟩, .bool (Lib.hasPrefix s.data.toList p.data.toList)]) ∧ w' = w := Any.strings_CutPrefix Try.lays103 s p w
def Try.lays190_ren : Go.Shelf.Ren := ⟨fun | 190 => 19 | 125 => 36 | 258 => 35 | 128 => 57 | 129 => 58 | 302 => 48 | 303 => 49 | 304 => 50 | 305 => 51 | 306 => 52 | 307 => 53 | 308 => 54 | 309 => 55 | 310 => 56 | 333 => 73 | 329 => 74 | 330 => 75 | 334 => 76 | 335 => 77 | 336 => 78 | 344 => 85 | n => n, fun | 31 => 30 | 9 => 9 | 3 => 3 | 46 => 70 | 0 => 0 | 51 => 90 | 53 => 92 | 4 => 4 | 183 => 82 | 182 => 81 | 131 => 87 | 5 => 5 | 218 => 99 | 222 => 103 | 228 => 107 | 229 => 108 | n => n, fun | n => n⟩
theorem Try.lays190 : Go.Proofs.Lays.n190 Try.prog Try.lays190_ren := {
  mixed := by kernel_rfl
  f125 := Try.func36.trans (congrArg some (by kernel_rfl))
  f128 := Try.func57.trans (congrArg some (by kernel_rfl))
  f129 := Try.func58.trans (congrArg some (by kernel_rfl))
  f190 := Try.func19.trans (congrArg some (by kernel_rfl))
  f258 := Try.func35.trans (congrArg some (by kernel_rfl))
  f302 := Try.func48.trans (congrArg some (by kernel_rfl))
  f303 := Try.func49.trans (congrArg some (by kernel_rfl))
  f304 := Try.func50.trans (congrArg some (by kernel_rfl))
  f305 := Try.func51.trans (congrArg some (by kernel_rfl))
  f306 := Try.func52.trans (congrArg some (by kernel_rfl))
  f307 := Try.func53.trans (congrArg some (by kernel_rfl))
  f308 := Try.func54.trans (congrArg some (by kernel_rfl))
  f309 := Try.func55.trans (congrArg some (by kernel_rfl))
  f310 := Try.func56.trans (congrArg some (by kernel_rfl))
  f329 := Try.func74.trans (congrArg some (by kernel_rfl))
  f330 := Try.func75.trans (congrArg some (by kernel_rfl))
  f333 := Try.func73.trans (congrArg some (by kernel_rfl))
  f334 := Try.func76.trans (congrArg some (by kernel_rfl))
  f335 := Try.func77.trans (congrArg some (by kernel_rfl))
  f336 := Try.func78.trans (congrArg some (by kernel_rfl))
  f344 := Try.func85.trans (congrArg some (by kernel_rfl))
  t0 := Try.underlying0
  a0 := Try.isAgg0
  z0 := Try.sizeOf0
  v0 := Try.zeroValue0
  t3 := Try.underlying3
  a3 := Try.isAgg3
  z3 := Try.sizeOf3
  v3 := Try.zeroValue3
  t4 := Try.underlying4
  a4 := Try.isAgg4
  z4 := Try.sizeOf4
  v4 := Try.zeroValue4
  t5 := Try.underlying5
  a5 := Try.isAgg5
  z5 := Try.sizeOf5
  v5 := Try.zeroValue5
  t9 := Try.underlying9
  a9 := Try.isAgg9
  z9 := Try.sizeOf9
  v9 := Try.zeroValue9
  t31 := Try.underlying30
  a31 := Try.isAgg30
  z31 := Try.sizeOf30
  v31 := Try.zeroValue30
  t46 := Try.underlying70
  a46 := Try.isAgg70
  z46 := Try.sizeOf70
  v46 := Try.zeroValue70
  t51 := Try.underlying90
  a51 := Try.isAgg90
  z51 := Try.sizeOf90
  v51 := Try.zeroValue90
  t53 := Try.underlying92
  a53 := Try.isAgg92
  z53 := Try.sizeOf92
  v53 := Try.zeroValue92
  t131 := Try.underlying87
  a131 := Try.isAgg87
  z131 := Try.sizeOf87
  v131 := Try.zeroValue87
  t182 := Try.underlying81
  a182 := Try.isAgg81
  z182 := Try.sizeOf81
  v182 := Try.zeroValue81
  t183 := Try.underlying82
  a183 := Try.isAgg82
  z183 := Try.sizeOf82
  v183 := Try.zeroValue82
  t218 := Try.underlying99
  a218 := Try.isAgg99
  z218 := Try.sizeOf99
  v218 := Try.zeroValue99
  t222 := Try.underlying103
  a222 := Try.isAgg103
  z222 := Try.sizeOf103
  v222 := Try.zeroValue103
  t228 := Try.underlying107
  a228 := Try.isAgg107
  z228 := Try.sizeOf107
  v228 := Try.zeroValue107
  t229 := Try.underlying108
  a229 := Try.isAgg108
  z229 := Try.sizeOf108
  v229 := Try.zeroValue108 }
open Go.Sort Go.RowKit in
theorem Try.slices_Sort_string (blk off cap : Nat) (ss : List (List UInt8)) (w : World) (hH : Holds encStr w blk off ss.toArray) (hblk : blk < w.heap.size) (hsz : ss.length < 4611686018427387904) :
    Calls Try.prog 19 #[.slice (some ⟨blk, off, none⟩) ss.length cap] w fun e w' =>
      e = .returned (.tuple #[]) ∧ ∃ n os, w' = grow (putRow encStr (Sort.ahead w n) blk off (ss.mergeSort fun x y => decide (x ≤ y)).toArray) os := Any.slices_Sort_string Try.lays190 blk off cap ss w hH hblk hsz
open Go.RowKit Go.Sort in
theorem Try.slices_Sort_string_none (p : Option Addr) (cap : Nat) (w : World) :
    Calls Try.prog 19 #[.slice p 0 cap] w fun e w' => e = .returned (.tuple #[]) ∧ w' = w := Any.slices_Sort_string_none Try.lays190 p cap w
def Try.lays194_ren : Go.Shelf.Ren := ⟨fun | 194 => 20 | n => n, fun | 31 => 30 | 9 => 9 | 3 => 3 | 4 => 4 | 0 => 0 | n => n, fun | n => n⟩
theorem Try.lays194 : Go.Proofs.Lays.n194 Try.prog Try.lays194_ren := {
  mixed := by kernel_rfl
  f194 := Try.func20.trans (congrArg some (by kernel_rfl))
  t0 := Try.underlying0
  a0 := Try.isAgg0
  z0 := Try.sizeOf0
  v0 := Try.zeroValue0
  t3 := Try.underlying3
  a3 := Try.isAgg3
  z3 := Try.sizeOf3
  v3 := Try.zeroValue3
  t4 := Try.underlying4
  a4 := Try.isAgg4
  z4 := Try.sizeOf4
  v4 := Try.zeroValue4
  t9 := Try.underlying9
  a9 := Try.isAgg9
  z9 := Try.sizeOf9
  v9 := Try.zeroValue9
  t31 := Try.underlying30
  a31 := Try.isAgg30
  z31 := Try.sizeOf30
  v31 := Try.zeroValue30 }
open Go.RowKit Go.Lib Go.Sort in
theorem Try.slices_Compact_string (blk off cap : Nat) (zs : List (List UInt8)) (w : World) (hH : Holds encStr w blk off zs.toArray) (hsz : zs.length ≤ 9223372036854775807) (hcap : zs.length ≤ cap) :
    Calls Try.prog 20 #[.slice (some ⟨blk, off, none⟩) zs.length cap] w fun e w' => e = .returned (.slice (some ⟨blk, off, none⟩) (Lib.compact zs).length cap) ∧ ∃ q, w' = putRow encStr (Sort.ahead w q) blk off (Lib.compact zs ++ List.replicate (zs.length - (Lib.compact zs).length) []).toArray := Any.slices_Compact_string Try.lays194 blk off cap zs w hH hsz hcap
open Go.RowKit Go.Lib Go.Sort in
theorem Try.slices_Compact_string_arr (blk off cap : Nat) (d : Array (List UInt8)) (w : World) (hH : Holds encStr w blk off d) (hsz : d.size ≤ 9223372036854775807) (hcap : d.size ≤ cap) :
    Calls Try.prog 20 #[.slice (some ⟨blk, off, none⟩) d.size cap] w fun e w' => e = .returned (.slice (some ⟨blk, off, none⟩) (compactUpTo d d.size).length cap) ∧ ∃ q, w' = putRow encStr (Sort.ahead w q) blk off (compactUpTo d d.size ++ List.replicate (d.size - (compactUpTo d d.size).length) []).toArray := Any.slices_Compact_string_arr Try.lays194 blk off cap d w hH hsz hcap
def Try.lays110_ren : Go.Shelf.Ren := ⟨fun | 110 => 24 | 109 => 38 | n => n, fun | 31 => 30 | 9 => 9 | 4 => 4 | 3 => 3 | 0 => 0 | n => n, fun | n => n⟩
theorem Try.lays110 : Go.Proofs.Lays.n110 Try.prog Try.lays110_ren := {
  mixed := by kernel_rfl
  f109 := Try.func38.trans (congrArg some (by kernel_rfl))
  f110 := Try.func24.trans (congrArg some (by kernel_rfl))
  t0 := Try.underlying0
  a0 := Try.isAgg0
  z0 := Try.sizeOf0
  v0 := Try.zeroValue0
  t3 := Try.underlying3
  a3 := Try.isAgg3
  z3 := Try.sizeOf3
  v3 := Try.zeroValue3
  t4 := Try.underlying4
  a4 := Try.isAgg4
  z4 := Try.sizeOf4
  v4 := Try.zeroValue4
  t9 := Try.underlying9
  a9 := Try.isAgg9
  z9 := Try.sizeOf9
  v9 := Try.zeroValue9
  t31 := Try.underlying30
  a31 := Try.isAgg30
  z31 := Try.sizeOf30
  v31 := Try.zeroValue30 }
open Go.Lib in
theorem Try.slices_Contains_string (b off n c : Nat) (zs : List ByteArray) (x : ByteArray) (w : World) (hz : n ≤ zs.length) (hbig : n ≤ 9223372036854775807) (hc : ∀ j, j < zs.length → w.cell? ⟨b, off + j, none⟩ = some (.string (zs.getD j ByteArray.empty))) :
    Calls Try.prog 24 #[.slice (some ⟨b, off, none⟩) n c, .string x] w fun e w' => e = .returned (.bool (Lib.containsS (zs.take n) x)) ∧ w' = w := Any.slices_Contains_string Try.lays110 b off n c zs x w hz hbig hc
open Go.Lib in
theorem Try.slices_Contains_string_empty (a : Option Addr) (c : Nat) (x : ByteArray) (w : World) :
    Calls Try.prog 24 #[.slice a 0 c, .string x] w fun e w' => e = .returned (.bool false) ∧ w' = w := Any.slices_Contains_string_empty Try.lays110 a c x w
def Try.lays109_ren : Go.Shelf.Ren := ⟨fun | 109 => 38 | n => n, fun | 31 => 30 | 9 => 9 | 3 => 3 | 0 => 0 | 4 => 4 | n => n, fun | n => n⟩
theorem Try.lays109 : Go.Proofs.Lays.n109 Try.prog Try.lays109_ren := {
  mixed := by kernel_rfl
  f109 := Try.func38.trans (congrArg some (by kernel_rfl))
  t0 := Try.underlying0
  a0 := Try.isAgg0
  z0 := Try.sizeOf0
  v0 := Try.zeroValue0
  t3 := Try.underlying3
  a3 := Try.isAgg3
  z3 := Try.sizeOf3
  v3 := Try.zeroValue3
  t4 := Try.underlying4
  a4 := Try.isAgg4
  z4 := Try.sizeOf4
  v4 := Try.zeroValue4
  t9 := Try.underlying9
  a9 := Try.isAgg9
  z9 := Try.sizeOf9
  v9 := Try.zeroValue9
  t31 := Try.underlying30
  a31 := Try.isAgg30
  z31 := Try.sizeOf30
  v31 := Try.zeroValue30 }
open Go.Lib in
theorem Try.slices_Index_string (b off n c : Nat) (zs : List ByteArray) (x : ByteArray) (w : World) (hz : n ≤ zs.length) (hbig : n ≤ 9223372036854775807) (hc : ∀ j, j < zs.length → w.cell? ⟨b, off + j, none⟩ = some (.string (zs.getD j ByteArray.empty))) :
    Calls Try.prog 38 #[.slice (some ⟨b, off, none⟩) n c, .string x] w fun e w' => e = .returned (.int .i64 (Lib.idxOfS (zs.take n) x)) ∧ w' = w := Any.slices_Index_string Try.lays109 b off n c zs x w hz hbig hc
open Go.Lib in
theorem Try.slices_Index_string_empty (a : Option Addr) (c : Nat) (x : ByteArray) (w : World) :
    Calls Try.prog 38 #[.slice a 0 c, .string x] w fun e w' => e = .returned (.int .i64 (Lib.idxOfS [] x)) ∧ w' = w := Any.slices_Index_string_empty Try.lays109 a c x w
def Try.hasFld_ren : Go.Shelf.Ren := ⟨fun | 8 => 22 | 6 => 37 | n => n, fun | 22 => 22 | 23 => 41 | 25 => 60 | 4 => 4 | 3 => 3 | 0 => 0 | n => n, fun | n => n⟩
theorem Try.hasFld : Go.Proofs.SlLaysH0.n8 Try.prog Try.hasFld_ren := {
  mixed := by kernel_rfl
  f6 := ⟨Try.f37.name, by decide, Try.func37.trans (congrArg some (by kernel_rfl))⟩
  f8 := ⟨Try.f22.name, by decide, Try.func22.trans (congrArg some (by kernel_rfl))⟩
  t0 := Try.underlying0
  a0 := Try.isAgg0
  z0 := Try.sizeOf0
  v0 := Try.zeroValue0
  t3 := Try.underlying3
  a3 := Try.isAgg3
  z3 := Try.sizeOf3
  v3 := Try.zeroValue3
  t4 := Try.underlying4
  a4 := Try.isAgg4
  z4 := Try.sizeOf4
  v4 := Try.zeroValue4
  t22 := Try.underlying22
  a22 := Try.isAgg22
  z22 := Try.sizeOf22
  v22 := Try.zeroValue22
  t25 := Try.underlying60
  a25 := Try.isAgg60
  z25 := Try.sizeOf60
  v25 := Try.zeroValue60 }
def Try.cloneKey_ren : Go.Shelf.Ren := ⟨fun | 41 => 31 | n => n, fun | 22 => 28 | 23 => 33 | 4 => 4 | n => n, fun | n => n⟩
theorem Try.cloneKey : Go.Proofs.SlLaysE0.n41 Try.prog Try.cloneKey_ren := {
  mixed := by kernel_rfl
  f41 := ⟨Try.f31.name, by decide, Try.func31.trans (congrArg some (by kernel_rfl))⟩
  t4 := Try.underlying4
  a4 := Try.isAgg4
  z4 := Try.sizeOf4
  v4 := Try.zeroValue4
  t22 := Try.underlying28
  a22 := Try.isAgg28
  z22 := Try.sizeOf28
  v22 := Try.zeroValue28 }
def Try.sortKey_ren : Go.Shelf.Ren := ⟨fun | 6 => 32 | 15 => 36 | 14 => 45 | 28 => 57 | 29 => 58 | 20 => 64 | 21 => 65 | 22 => 66 | 23 => 67 | 24 => 68 | 25 => 69 | 26 => 70 | 27 => 71 | 46 => 81 | 47 => 74 | 48 => 75 | 49 => 82 | 50 => 83 | 57 => 90 | n => n, fun | 22 => 28 | 24 => 33 | 25 => 67 | 3 => 3 | 39 => 70 | 0 => 0 | 53 => 90 | 55 => 92 | 4 => 4 | 46 => 82 | 45 => 81 | 50 => 87 | 5 => 5 | 9 => 9 | 66 => 99 | 70 => 103 | 76 => 107 | 77 => 108 | n => n, fun | n => n⟩
theorem Try.sortKey : Go.Proofs.SlLaysF0.n6 Try.prog Try.sortKey_ren := {
  mixed := by kernel_rfl
  f6 := ⟨Try.f32.name, by decide, Try.func32.trans (congrArg some (by kernel_rfl))⟩
  f14 := ⟨Try.f45.name, by decide, Try.func45.trans (congrArg some (by kernel_rfl))⟩
  f15 := Try.func36.trans (congrArg some (by kernel_rfl))
  f20 := ⟨Try.f64.name, by decide, Try.func64.trans (congrArg some (by kernel_rfl))⟩
  f21 := ⟨Try.f65.name, by decide, Try.func65.trans (congrArg some (by kernel_rfl))⟩
  f22 := ⟨Try.f66.name, by decide, Try.func66.trans (congrArg some (by kernel_rfl))⟩
  f23 := ⟨Try.f67.name, by decide, Try.func67.trans (congrArg some (by kernel_rfl))⟩
  f24 := ⟨Try.f68.name, by decide, Try.func68.trans (congrArg some (by kernel_rfl))⟩
  f25 := ⟨Try.f69.name, by decide, Try.func69.trans (congrArg some (by kernel_rfl))⟩
  f26 := ⟨Try.f70.name, by decide, Try.func70.trans (congrArg some (by kernel_rfl))⟩
  f27 := ⟨Try.f71.name, by decide, Try.func71.trans (congrArg some (by kernel_rfl))⟩
  f28 := Try.func57.trans (congrArg some (by kernel_rfl))
  f29 := Try.func58.trans (congrArg some (by kernel_rfl))
  f46 := ⟨Try.f81.name, by decide, Try.func81.trans (congrArg some (by kernel_rfl))⟩
  f47 := Try.func74.trans (congrArg some (by kernel_rfl))
  f48 := Try.func75.trans (congrArg some (by kernel_rfl))
  f49 := ⟨Try.f82.name, by decide, Try.func82.trans (congrArg some (by kernel_rfl))⟩
  f50 := ⟨Try.f83.name, by decide, Try.func83.trans (congrArg some (by kernel_rfl))⟩
  f57 := ⟨Try.f90.name, by decide, Try.func90.trans (congrArg some (by kernel_rfl))⟩
  t0 := Try.underlying0
  a0 := Try.isAgg0
  z0 := Try.sizeOf0
  v0 := Try.zeroValue0
  t3 := Try.underlying3
  a3 := Try.isAgg3
  z3 := Try.sizeOf3
  v3 := Try.zeroValue3
  t4 := Try.underlying4
  a4 := Try.isAgg4
  z4 := Try.sizeOf4
  v4 := Try.zeroValue4
  t5 := Try.underlying5
  a5 := Try.isAgg5
  z5 := Try.sizeOf5
  v5 := Try.zeroValue5
  t9 := Try.underlying9
  a9 := Try.isAgg9
  z9 := Try.sizeOf9
  v9 := Try.zeroValue9
  t22 := Try.underlying28
  a22 := Try.isAgg28
  z22 := Try.sizeOf28
  v22 := Try.zeroValue28
  t25 := Try.underlying67
  a25 := Try.isAgg67
  z25 := Try.sizeOf67
  v25 := Try.zeroValue67
  t39 := Try.underlying70
  a39 := Try.isAgg70
  z39 := Try.sizeOf70
  v39 := Try.zeroValue70
  t45 := Try.underlying81
  a45 := Try.isAgg81
  z45 := Try.sizeOf81
  v45 := Try.zeroValue81
  t46 := Try.underlying82
  a46 := Try.isAgg82
  z46 := Try.sizeOf82
  v46 := Try.zeroValue82
  t50 := Try.underlying87
  a50 := Try.isAgg87
  z50 := Try.sizeOf87
  v50 := Try.zeroValue87
  t53 := Try.underlying90
  a53 := Try.isAgg90
  z53 := Try.sizeOf90
  v53 := Try.zeroValue90
  t55 := Try.underlying92
  a55 := Try.isAgg92
  z55 := Try.sizeOf92
  v55 := Try.zeroValue92
  t66 := Try.underlying99
  a66 := Try.isAgg99
  z66 := Try.sizeOf99
  v66 := Try.zeroValue99
  t70 := Try.underlying103
  a70 := Try.isAgg103
  z70 := Try.sizeOf103
  v70 := Try.zeroValue103
  t76 := Try.underlying107
  a76 := Try.isAgg107
  z76 := Try.sizeOf107
  v76 := Try.zeroValue107
  t77 := Try.underlying108
  a77 := Try.isAgg108
  z77 := Try.sizeOf108
  v77 := Try.zeroValue108 }
def Try.laysCompact_ren : Go.Shelf.Ren := ⟨fun | 194 => 20 | n => n, fun | 31 => 30 | 9 => 9 | 3 => 3 | 4 => 4 | 0 => 0 | n => n, fun | n => n⟩
theorem Try.laysCompact : Go.Proofs.Lays.n194 Try.prog Try.laysCompact_ren := {
  mixed := by kernel_rfl
  f194 := Try.func20.trans (congrArg some (by kernel_rfl))
  t0 := Try.underlying0
  a0 := Try.isAgg0
  z0 := Try.sizeOf0
  v0 := Try.zeroValue0
  t3 := Try.underlying3
  a3 := Try.isAgg3
  z3 := Try.sizeOf3
  v3 := Try.zeroValue3
  t4 := Try.underlying4
  a4 := Try.isAgg4
  z4 := Try.sizeOf4
  v4 := Try.zeroValue4
  t9 := Try.underlying9
  a9 := Try.isAgg9
  z9 := Try.sizeOf9
  v9 := Try.zeroValue9
  t31 := Try.underlying30
  a31 := Try.isAgg30
  z31 := Try.sizeOf30
  v31 := Try.zeroValue30 }
def Try.laysContains_ren : Go.Shelf.Ren := ⟨fun | 110 => 24 | 109 => 38 | n => n, fun | 31 => 30 | 9 => 9 | 4 => 4 | 3 => 3 | 0 => 0 | n => n, fun | n => n⟩
theorem Try.laysContains : Go.Proofs.Lays.n110 Try.prog Try.laysContains_ren := {
  mixed := by kernel_rfl
  f109 := Try.func38.trans (congrArg some (by kernel_rfl))
  f110 := Try.func24.trans (congrArg some (by kernel_rfl))
  t0 := Try.underlying0
  a0 := Try.isAgg0
  z0 := Try.sizeOf0
  v0 := Try.zeroValue0
  t3 := Try.underlying3
  a3 := Try.isAgg3
  z3 := Try.sizeOf3
  v3 := Try.zeroValue3
  t4 := Try.underlying4
  a4 := Try.isAgg4
  z4 := Try.sizeOf4
  v4 := Try.zeroValue4
  t9 := Try.underlying9
  a9 := Try.isAgg9
  z9 := Try.sizeOf9
  v9 := Try.zeroValue9
  t31 := Try.underlying30
  a31 := Try.isAgg30
  z31 := Try.sizeOf30
  v31 := Try.zeroValue30 }
end Go.Proofs

/-
  Where a byte first stands in a text, in plain lists.
-/
namespace Go.Proofs.Ytinmagodckkedab

theorem ix_cases (l : List UInt8) (c : UInt8) :
    (Lib.indexByte l c = -1 ∧ c ∉ l) ∨ ∃ i : Nat, Lib.indexByte l c = (i : Int) ∧ i < l.length ∧ l[i]? = some c ∧ c ∉ l.take i := by
  induction l with
  | nil => left; exact ⟨rfl, by simp⟩
  | cons b l ih =>
    by_cases hb : b = c
    · right
      refine ⟨0, ?_, by simp, by simp [hb], by simp⟩
      unfold Lib.indexByte; simp [hb]
    · have hbc : (b == c) = false := by simp [hb]
      rcases ih with ⟨h1, h2⟩ | ⟨i, h1, h2, h3, h4⟩
      · left
        refine ⟨?_, ?_⟩
        · unfold Lib.indexByte; rw [hbc]; simp [h1]
        · simp only [List.mem_cons, not_or]; exact ⟨fun h => hb h.symm, h2⟩
      · right
        refine ⟨i + 1, ?_, by simp; omega, by simpa using h3, ?_⟩
        · unfold Lib.indexByte; rw [hbc, h1]
          have : ((i : Int) == -1) = false := by rw [beq_eq_false_iff_ne]; omega
          simp [this]
        · simp only [List.take_succ_cons, List.mem_cons, not_or]; exact ⟨fun h => hb h.symm, h4⟩

/-- The split of a text at its first byte c. -/
theorem ix_split (l : List UInt8) (c : UInt8) (i : Nat) (h1 : i < l.length) (h2 : l[i]? = some c) : l = l.take i ++ c :: l.drop (i + 1) := by
  have h3 : l[i] = c := by rw [List.getElem?_eq_getElem h1] at h2; exact Option.some.inj h2
  calc l = l.take i ++ l.drop i := (List.take_append_drop i l).symm
    _ = l.take i ++ c :: l.drop (i + 1) := by rw [List.drop_eq_getElem_cons h1, h3]

theorem ix_uniq {a b a' b' : List UInt8} {c : UInt8} (h : a ++ c :: b = a' ++ c :: b') (ha : c ∉ a) (ha' : c ∉ a') : a = a' ∧ b = b' := by
  induction a generalizing a' with
  | nil =>
    cases a' with
    | nil => simp at h; exact ⟨rfl, h⟩
    | cons x a' => simp at h; simp [h.1] at ha'
  | cons x a ih =>
    cases a' with
    | nil => simp at h; simp [h.1] at ha
    | cons y a' =>
      simp only [List.cons_append, List.cons.injEq] at h
      simp only [List.mem_cons, not_or] at ha ha'
      obtain ⟨e1, e2⟩ := ih h.2 ha.2 ha'.2
      exact ⟨by rw [h.1, e1], e2⟩

theorem ext_head (s : ByteArray) (i : Nat) : (s.extract 0 i).data.toList = s.data.toList.take i := by
  rw [Lib.extract_data]; simp

theorem ext_tail (s : ByteArray) (i : Nat) : (s.extract i s.size).data.toList = s.data.toList.drop i := Lib.extract_to_end s i

end Go.Proofs.Ytinmagodckkedab

/-
  The contract of strings.Cut at a separator of one byte.
-/
namespace Go.Proofs.Ytinmagodckkedab
open Go.RowKit



set_option maxHeartbeats 400000 in
theorem cutl_no (s : ByteArray) (c : UInt8) (w : World) (hix : Lib.indexByte s.data.toList c = -1) :
    Calls Try.prog 63 #[.string s, .string ⟨#[c]⟩] w fun e w' => e = .returned (.tuple #[.string s, .string ⟨#[]⟩, .bool false]) ∧ w' = w := by
  have HX : Hid (Lib.indexByte s.data.toList c = -1) := hix
  clear hix
  go_enter Try.func63, Try.ntmps63
  go_wp2_with (go_at_call 80; refine (Try.stringslite_Index_one _ _ _).mono ?_; rintro e w' ⟨rfl, rfl⟩; rw [HX.out])
  go_ret3
  exact ⟨rfl, rfl⟩

set_option maxHeartbeats 400000 in
theorem cutl_yes (s : ByteArray) (c : UInt8) (w : World) (i : Nat) (hix : Lib.indexByte s.data.toList c = (i : Int)) (hi : i < s.size) (hs : s.size ≤ maxLen) :
    Calls Try.prog 63 #[.string s, .string ⟨#[c]⟩] w fun e w' => e = .returned (.tuple #[.string (s.extract 0 i), .string (s.extract (i + 1) s.size), .bool true]) ∧ ∃ n, w' = w.drewN n := by
  have HX : Hid (Lib.indexByte s.data.toList c = (i : Int)) := hix
  clear hix
  unfold maxLen at hs
  have c1 : (0 : Int) ≤ ↑i := by omega
  have c2 : (↑i : Int) ≤ ↑s.size := by omega
  have c3 : (0 : Int) ≤ ↑i + 1 := by omega
  have c4 : (↑i + 1 : Int) ≤ ↑s.size := by omega
  go_enter Try.func63, Try.ntmps63
  go_wp2_with (go_at_call 80; refine (Try.stringslite_Index_one _ _ _).mono ?_; rintro e w' ⟨rfl, rfl⟩; rw [HX.out])
  go_quiet (fail)
  go_wp2_with fail
  go_ret3
  exact ⟨rfl, _, rfl⟩

set_option maxHeartbeats 400000 in
theorem cut_no (s : ByteArray) (c : UInt8) (w : World) (hix : Lib.indexByte s.data.toList c = -1) :
    Calls Try.prog 44 #[.string s, .string ⟨#[c]⟩] w fun e w' => e = .returned (.tuple #[.string s, .string ⟨#[]⟩, .bool false]) ∧ w' = w := by
  have HX : Hid (Lib.indexByte s.data.toList c = -1) := hix
  clear hix
  go_enter Try.func44, Try.ntmps44
  go_wp2_with (go_at_call 63; refine (cutl_no _ _ _ HX.out).mono ?_; rintro e w' ⟨rfl, rfl⟩)
  go_ret3
  exact ⟨rfl, rfl⟩

set_option maxHeartbeats 400000 in
theorem cut_yes (s : ByteArray) (c : UInt8) (w : World) (i : Nat) (hix : Lib.indexByte s.data.toList c = (i : Int)) (hi : i < s.size) (hs : s.size ≤ maxLen) :
    Calls Try.prog 44 #[.string s, .string ⟨#[c]⟩] w fun e w' => e = .returned (.tuple #[.string (s.extract 0 i), .string (s.extract (i + 1) s.size), .bool true]) ∧ ∃ n, w' = w.drewN n := by
  have HX : Hid (Lib.indexByte s.data.toList c = (i : Int)) := hix
  clear hix
  go_enter Try.func44, Try.ntmps44
  go_wp2_with (go_at_call 63; refine (cutl_yes _ _ _ i HX.out hi hs).mono ?_; rintro e w' ⟨rfl, n, rfl⟩)
  go_ret3
  exact ⟨rfl, n, rfl⟩

end Go.Proofs.Ytinmagodckkedab

/-
  The contracts of Key, Print and Parse of package name.
-/
namespace Go.Proofs.Ytinmagodckkedab
open Go.RowKit

def keyB (a b : ByteArray) : Bool := typeB a.data.toList && idenB b.data.toList

theorem bcell {W w1 : World} (hb : Below W.heap.size W w1) : (∀ b o, b < W.heap.size → w1.cell? ⟨b, o, none⟩ = W.cell? ⟨b, o, none⟩) ∧ (∀ b o, b < W.heap.size → w1.frozen? ⟨b, o, none⟩ = W.frozen? ⟨b, o, none⟩) :=
  ⟨fun b o h => hb.cell (p := ⟨b, o, none⟩) h, fun b o h => hb.frozen (p := ⟨b, o, none⟩) h⟩

set_option maxHeartbeats 400000 in
theorem key_any (a b : ByteArray) (w : World) (ha : a.size ≤ maxLen) (hb : b.size ≤ maxLen) :
    Calls Try.prog 28 #[.agg #[.string a, .string b]] w fun e w' => e = .returned (.bool (keyB a b)) ∧ Below w.heap.size w w' := by
  have HK : Hid (keyB a b = (typeB a.data.toList && idenB b.data.toList)) := rfl
  cases ht : typeB a.data.toList
  all_goals
    go_enter Try.func28, Try.ntmps28
    go_wp2_with (first | (go_at_call 41; refine (type_any _ _ ha).mono ?_; rintro e w' ⟨rfl, rfl⟩) | (go_at_call 42; refine (iden_any _ _ hb).mono ?_; rintro e w' ⟨rfl, rfl⟩))
    go_ret
    exact ⟨ret_bool (by rw [HK.out, ht]; rfl), (Below.refl _ _).alloc (Nat.le_refl _) _⟩

set_option maxHeartbeats 400000 in
theorem nprint_no (a b : ByteArray) (w : World) (ha : a.size ≤ maxLen) (hb : b.size ≤ maxLen) (hk : keyB a b = false) :
    Calls Try.prog 26 #[.agg #[.string a, .string b]] w fun e w' => e = .returned (.tuple #[.string ⟨#[]⟩, .int .i64 2]) ∧ Below w.heap.size w w' := by
  go_enter Try.func26, Try.ntmps26
  go_wp2_with (go_at_call 28; refine (key_any _ _ _ ha hb).mono ?_; rintro e w1 ⟨rfl, hq⟩)
  go_ret2
  exact ⟨rfl, ((Below.refl _ _).alloc (Nat.le_refl _) _).trans (hq.mono (by simp))⟩

set_option maxHeartbeats 400000 in
theorem nprint_yes (a b : ByteArray) (w : World) (ha : a.size ≤ maxLen) (hb : b.size ≤ maxLen) (ha32 : a.size ≤ 32) (hb32 : b.size ≤ 32) (hk : keyB a b = true) :
    Calls Try.prog 26 #[.agg #[.string a, .string b]] w fun e w' => e = .returned (.tuple #[.string (a ++ ⟨#[47]⟩ ++ b), .int .i64 0]) ∧ Below w.heap.size w w' := by
  go_enter Try.func26, Try.ntmps26
  go_wp2_with (go_at_call 28; refine (key_any _ _ _ ha hb).mono ?_; rintro e w1 ⟨rfl, hq⟩; obtain ⟨hc, hf⟩ := bcell hq)
  go_ret2
  refine ⟨?_, ((Below.refl _ _).alloc (Nat.le_refl _) _).trans (hq.mono (by simp))⟩
  rfl

theorem typeB_len {l : List UInt8} (h : typeB l = true) : l.length ≤ 32 := by
  cases l with
  | nil => simp
  | cons c r => simp [typeB, spell] at h; simp; omega
theorem idenB_len {l : List UInt8} (h : idenB l = true) : l.length ≤ 32 := by
  cases l with
  | nil => simp
  | cons c r => simp [idenB, spell] at h; simp; omega
theorem idenB_empty : idenB [] = false := rfl

theorem keyB_empty (a : ByteArray) : keyB a ⟨#[]⟩ = false := by
  unfold keyB
  rw [show (⟨#[]⟩ : ByteArray).data.toList = [] from rfl, idenB_empty, Bool.and_false]

theorem ext_size (s : ByteArray) (i j : Nat) (h : s.size ≤ maxLen) : (s.extract i j).size ≤ maxLen := by
  have : (s.extract i j).size ≤ s.size := by simp; omega
  omega

set_option maxHeartbeats 400000 in
/-- No slash: no key. -/
theorem parse_bare (s : ByteArray) (w : World) (hs : s.size ≤ maxLen) (hix : Lib.indexByte s.data.toList 47 = -1) :
    Calls Try.prog 30 #[.string s] w fun e w' => e = .returned (.tuple #[.agg #[.string ⟨#[]⟩, .string ⟨#[]⟩], .int .i64 2]) ∧ Below w.heap.size w w' := by
  have HX : Hid (Lib.indexByte s.data.toList 47 = -1) := hix
  clear hix
  have hk := keyB_empty s
  have h0 : (⟨#[]⟩ : ByteArray).size ≤ maxLen := by decide
  go_enter Try.func30, Try.ntmps30
  go_wp2_with (first | (go_at_call 44; refine (cut_no _ _ _ HX.out).mono ?_; rintro e w' ⟨rfl, rfl⟩) | (go_at_call 28; refine (key_any _ _ _ hs h0).mono ?_; rintro e w1 ⟨rfl, hq⟩; obtain ⟨hc, hf⟩ := bcell hq))
  have c0 : w1.cell? ⟨w.heap.size, 0, none⟩ = some (.string ⟨#[]⟩) := by rw [hc _ _ (by simp; omega)]; simp [go_sem]
  have c1 : w1.cell? ⟨w.heap.size, 1, none⟩ = some (.string ⟨#[]⟩) := by rw [hc _ _ (by simp; omega)]; simp [go_sem]
  exact bodyPost_ret (v := .tuple #[.agg #[.string ⟨#[]⟩, .string ⟨#[]⟩], .int .i64 2]) (by simp [results, Try.results30, go_sem, c0, c1]) rfl
    ⟨rfl, (((((Below.refl _ _).alloc (Nat.le_refl _) _).alloc (by simp) _).trans (hq.mono (by simp; omega))).setCell (by simp) _).setCell (by simp) _⟩

set_option maxHeartbeats 400000 in
theorem parse_no (s : ByteArray) (w : World) (hs : s.size ≤ maxLen) (i : Nat) (hix : Lib.indexByte s.data.toList 47 = (i : Int)) (hi : i < s.size)
    (hk : keyB (s.extract 0 i) (s.extract (i + 1) s.size) = false) :
    Calls Try.prog 30 #[.string s] w fun e w' => e = .returned (.tuple #[.agg #[.string ⟨#[]⟩, .string ⟨#[]⟩], .int .i64 2]) ∧ Below w.heap.size w w' := by
  have HX : Hid (Lib.indexByte s.data.toList 47 = (i : Int)) := hix
  have h1 := ext_size s 0 i hs
  have h2 := ext_size s (i + 1) s.size hs
  have HH : Hid (i < s.size ∧ s.size ≤ maxLen ∧ (s.extract 0 i).size ≤ maxLen ∧ (s.extract (i + 1) s.size).size ≤ maxLen) := ⟨hi, hs, h1, h2⟩
  clear hix hi hs h1 h2
  go_enter Try.func30, Try.ntmps30
  go_wp2_with (first | (go_at_call 44; refine (cut_yes _ _ _ i HX.out HH.out.1 HH.out.2.1).mono ?_; rintro e w' ⟨rfl, n, rfl⟩) | (go_at_call 28; refine (key_any _ _ _ HH.out.2.2.1 HH.out.2.2.2).mono ?_; rintro e w1 ⟨rfl, hq⟩; obtain ⟨hc, hf⟩ := bcell hq))
  have c0 : w1.cell? ⟨w.heap.size, 0, none⟩ = some (.string ⟨#[]⟩) := by rw [hc _ _ (by simp; omega)]; simp [go_sem]
  have c1 : w1.cell? ⟨w.heap.size, 1, none⟩ = some (.string ⟨#[]⟩) := by rw [hc _ _ (by simp; omega)]; simp [go_sem]
  exact bodyPost_ret (v := .tuple #[.agg #[.string ⟨#[]⟩, .string ⟨#[]⟩], .int .i64 2]) (by simp [results, Try.results30, go_sem, c0, c1]) rfl
    ⟨rfl, ((((below_drewN ((Below.refl _ _).alloc (Nat.le_refl _) _) _).alloc (by simp) _).trans (hq.mono (by simp; omega))).setCell (by simp) _).setCell (by simp) _⟩

set_option maxHeartbeats 400000 in
theorem parse_yes (s : ByteArray) (w : World) (hs : s.size ≤ maxLen) (i : Nat) (hix : Lib.indexByte s.data.toList 47 = (i : Int)) (hi : i < s.size)
    (hk : keyB (s.extract 0 i) (s.extract (i + 1) s.size) = true) :
    Calls Try.prog 30 #[.string s] w fun e w' => e = .returned (.tuple #[.agg #[.string (s.extract 0 i), .string (s.extract (i + 1) s.size)], .int .i64 0]) ∧ Below w.heap.size w w' := by
  have HX : Hid (Lib.indexByte s.data.toList 47 = (i : Int)) := hix
  have h1 := ext_size s 0 i hs
  have h2 := ext_size s (i + 1) s.size hs
  have HH : Hid (i < s.size ∧ s.size ≤ maxLen ∧ (s.extract 0 i).size ≤ maxLen ∧ (s.extract (i + 1) s.size).size ≤ maxLen) := ⟨hi, hs, h1, h2⟩
  clear hix hi hs h1 h2
  go_enter Try.func30, Try.ntmps30
  go_wp2_with (first | (go_at_call 44; refine (cut_yes _ _ _ i HX.out HH.out.1 HH.out.2.1).mono ?_; rintro e w' ⟨rfl, n, rfl⟩) | (go_at_call 28; refine (key_any _ _ _ HH.out.2.2.1 HH.out.2.2.2).mono ?_; rintro e w1 ⟨rfl, hq⟩; obtain ⟨hc, hf⟩ := bcell hq))
  have c0 : w1.cell? ⟨w.heap.size, 0, none⟩ = some (.string ⟨#[]⟩) := by rw [hc _ _ (by simp; omega)]; simp [go_sem]
  have c1 : w1.cell? ⟨w.heap.size, 1, none⟩ = some (.string ⟨#[]⟩) := by rw [hc _ _ (by simp; omega)]; simp [go_sem]
  exact bodyPost_ret (v := .tuple #[.agg #[.string (s.extract 0 i), .string (s.extract (i + 1) s.size)], .int .i64 0]) (by simp [results, Try.results30, go_sem, c0, c1]) rfl
    ⟨rfl, ((((below_drewN ((Below.refl _ _).alloc (Nat.le_refl _) _) _).alloc (by simp) _).trans (hq.mono (by simp; omega))).setCell (by simp) _).setCell (by simp) _⟩

end Go.Proofs.Ytinmagodckkedab

/-
  The contracts of cmp.Or and of Compare of package name.
-/
namespace Go.Proofs.Ytinmagodckkedab.Z
open Go.RowKit

def orI (x y : Int) : Int := if x = 0 then y else x

set_option maxHeartbeats 400000 in
theorem zor_any (x y : Int) (b : Nat) (w : World) (h0 : w.cell? ⟨b, 0, none⟩ = some (.int .i64 x)) (h1 : w.cell? ⟨b, 1, none⟩ = some (.int .i64 y)) :
    Calls Try.prog 46 #[.slice (some ⟨b, 0, none⟩) 2 2] w fun e w' => e = .returned (.int .i64 (orI x y)) ∧ w' = w := by
  by_cases hx : x = 0
  · have HO : Hid (orI x y = y) := if_pos hx
    subst hx
    by_cases hy : y = 0
    · subst hy
      go_enter Try.func46, Try.ntmps46
      go_wp2
      refine wp_loop_rounds 3 ?_
      rw [rounds_succ]; go_wp2
      rw [rounds_succ]; go_wp2
      rw [rounds_succ]; go_wp2
      go_ret
      exact ⟨ret_int HO.out.symm, rfl⟩
    · have hyb : (y != 0) = true := by simp [hy]
      clear hy
      go_enter Try.func46, Try.ntmps46
      go_wp2
      refine wp_loop_rounds 3 ?_
      rw [rounds_succ]; go_wp2
      rw [rounds_succ]; go_wp2
      go_ret
      exact ⟨ret_int HO.out.symm, rfl⟩
  · have HO : Hid (orI x y = x) := if_neg hx
    have hxb : (x != 0) = true := by simp [hx]
    clear hx
    go_enter Try.func46, Try.ntmps46
    go_wp2
    refine wp_loop_rounds 3 ?_
    rw [rounds_succ]; go_wp2
    go_ret
    exact ⟨ret_int HO.out.symm, rfl⟩

attribute [local go_sem ↓] Go.wp_at_zero Go.wp_at_succ

def cmpI (a b c d : ByteArray) : Int := orI (Lib.compareBytes a.data.toList c.data.toList) (Lib.compareBytes b.data.toList d.data.toList)

set_option maxHeartbeats 800000 in
theorem compare_eq (a b c d : ByteArray) (w : World) :
    Calls Try.prog 33 #[.agg #[.string a, .string b], .agg #[.string c, .string d]] w fun e w' => e = .returned (.int .i64 (cmpI a b c d)) ∧
      w' = (((w.alloc (.cells #[.string a, .string b] 33)).alloc (.cells #[.string c, .string d] 33)).alloc (.cells #[.int .i64 (Lib.compareBytes a.data.toList c.data.toList), .int .i64 (Lib.compareBytes b.data.toList d.data.toList)] 3)).drew := by
  have HO : Hid (cmpI a b c d = orI (Lib.compareBytes a.data.toList c.data.toList) (Lib.compareBytes b.data.toList d.data.toList)) := rfl
  go_enter Try.func33, Try.ntmps33
  go_wp2_with fail
  go_region_held3 (fun w' => w'.cell? ⟨w.heap.size, 0, none⟩ = some (.string a) ∧ w'.cell? ⟨w.heap.size, 1, none⟩ = some (.string b) ∧ w'.cell? ⟨w.heap.size + 1, 0, none⟩ = some (.string c) ∧ w'.cell? ⟨w.heap.size + 1, 1, none⟩ = some (.string d)) (go_keep) (first | (go_at_call 47; refine (Try.strings_Compare _ _ _).mono ?_; rintro e w' ⟨rfl, rfl⟩) | (go_at_call 46; refine (zor_any (Lib.compareBytes a.data.toList c.data.toList) (Lib.compareBytes b.data.toList d.data.toList) _ _ ?_ ?_).mono ?_; (simp [go_sem]); (simp [go_sem]); rintro e w' ⟨rfl, rfl⟩))
  all_goals
    go_wp2
    go_ret
    exact ⟨ret_int HO.out.symm, rfl⟩

theorem zcompare_any (a b c d : ByteArray) (w : World) :
    Calls Try.prog 33 #[.agg #[.string a, .string b], .agg #[.string c, .string d]] w fun e w' => e = .returned (.int .i64 (cmpI a b c d)) ∧ Below w.heap.size w w' :=
  (compare_eq a b c d w).mono fun e w' ⟨h1, h2⟩ => ⟨h1, by rw [h2]; exact ((((Below.refl _ _).alloc (Nat.le_refl _) _).alloc (by simp) _).alloc (by simp; omega) _).drew⟩

end Go.Proofs.Ytinmagodckkedab.Z

/-
  What == and != say of two keys.
-/
namespace Go.Proofs.Ytinmagodckkedab.Z
open Go.RowKit

def eqK (a b c d : ByteArray) : Bool := a.toList == c.toList && b.toList == d.toList

theorem eql_key (a b c d : ByteArray) (w : World) : (binOp .eql 33 (.agg #[.string a, .string b]) (.agg #[.string c, .string d])).run Try.prog w = .ok (.bool (eqK a b c d)) w := by
  have u9 := Try.underlying9
  have a9 := Try.isAgg9
  have z9 := Try.sizeOf9
  have hS : Try.prog.underlying 33 = some (.struct (Try.prog.fieldsOf 33)) := by kernel_rfl
  have hp : Try.prog.stoodInHeld 33 = false := by kernel_rfl
  rw [run_eql_struct, show (10000 : Nat) = 9999 + 1 from rfl, run_equalIn_agg w 9999 33 _ _ hS hp]
  simp only [Program.fieldsOf, Try.underlying33]
  go_simp
  unfold eqK
  by_cases h1 : a.toList = c.toList <;> by_cases h2 : b.toList = d.toList <;> simp [h1, h2]

theorem neq_key (a b c d : ByteArray) (w : World) : (binOp .neq 33 (.agg #[.string a, .string b]) (.agg #[.string c, .string d])).run Try.prog w = .ok (.bool (!eqK a b c d)) w := by
  have u9 := Try.underlying9
  have a9 := Try.isAgg9
  have z9 := Try.sizeOf9
  have hS : Try.prog.underlying 33 = some (.struct (Try.prog.fieldsOf 33)) := by kernel_rfl
  have hp : Try.prog.stoodInHeld 33 = false := by kernel_rfl
  rw [run_neq_struct, show (10000 : Nat) = 9999 + 1 from rfl, run_equalIn_agg w 9999 33 _ _ hS hp]
  simp only [Program.fieldsOf, Try.underlying33]
  go_simp
  unfold eqK
  by_cases h1 : a.toList = c.toList <;> by_cases h2 : b.toList = d.toList <;> simp [h1, h2]

end Go.Proofs.Ytinmagodckkedab.Z

/-
  slices.Compact at two keys that are one.
-/
namespace Go.Proofs.Ytinmagodckkedab.Z
open Go.RowKit

theorem zero_cells (e : Value) (n : Nat) : (Builtin.zeroCells #[e, e] n).toList = List.replicate (n * 2) e := by
  apply List.ext_getElem
  · simp [Builtin.zeroCells]
  · intro i h1 h2
    simp [Builtin.zeroCells]
    rcases Nat.mod_two_eq_zero_or_one i with h | h <;> simp [h]

theorem run_clear_key (w : World) (ty : TypeId) (b o n c : Nat) (hn : 0 < n)
    (hc : ∀ j, j < n * 2 → (w.cell? ⟨b, o + j, none⟩).isSome = true) (hf : ∀ j, j < n * 2 → w.frozen? ⟨b, o + j, none⟩ = false) :
    (Builtin.clear_ #[28] ty #[.slice (some ⟨b, o, none⟩) n c]).run Try.prog w = .ok (.tuple #[]) (w.setCells b o (List.replicate (n * 2) (.string ⟨#[]⟩))) := by
  have hst := run_storeCells_cells (P := Try.prog) b o (List.replicate (n * 2) (.string ⟨#[]⟩)) 0 w (by simpa using hc) (by simpa using hf) (by intro v hv'; rw [List.eq_of_mem_replicate hv']; rfl)
  simp only [Nat.add_zero] at hst
  have hz := zero_cells (.string ⟨#[]⟩) n
  obtain ⟨m, rfl⟩ : ∃ m, n = m + 1 := ⟨n - 1, by omega⟩
  simp [Builtin.clear_, run_underlying Try.underlying28, Try.zeroValue33, Value.cells, hz, hst]

theorem below_setCells {B : Nat} {w w' : World} (b : Nat) (hb : B ≤ b) : ∀ (vs : List Value) (o : Nat), Below B w w' → Below B w (w'.setCells b o vs)
  | [], _, h => h
  | v :: vs, o, h => by
    unfold World.setCells
    exact below_setCells (w' := w'.setCell ⟨b, o, none⟩ v) b hb vs (o + 1) (h.setCell hb v)

theorem eqK_self (a b : ByteArray) : eqK a b a b = true := by simp [eqK]

set_option maxHeartbeats 1000000 in
theorem compact_two (a b : ByteArray) (g c : Nat) (w : World) (hc : 2 ≤ c) (hc' : c ≤ maxLen)
    (h0 : w.cell? ⟨g, 0, none⟩ = some (.string a)) (h1 : w.cell? ⟨g, 1, none⟩ = some (.string b)) (h2 : w.cell? ⟨g, 2, none⟩ = some (.string a)) (h3 : w.cell? ⟨g, 3, none⟩ = some (.string b))
    (f2 : w.frozen? ⟨g, 2, none⟩ = false) (f3 : w.frozen? ⟨g, 3, none⟩ = false) :
    Calls Try.prog 34 #[.slice (some ⟨g, 0, none⟩) 2 c] w fun e w' => e = .returned (.slice (some ⟨g, 0, none⟩) 1 c) ∧ Below g w w' := by
  unfold maxLen at hc'
  have heq := fun a b c d w => eql_key a b c d w
  have hk := eqK_self a b
  have hcl : ∀ nq ty, (Builtin.clear_ #[28] ty #[.slice (some ⟨g, 2, none⟩) 1 (c - 1)]).run Try.prog (w.drewN nq) = .ok (.tuple #[]) ((w.drewN nq).setCells g 2 (List.replicate (1 * 2) (.string ⟨#[]⟩))) := by
    intro nq ty
    refine run_clear_key (w.drewN nq) ty g 2 1 (c - 1) (by omega) ?_ ?_
    · intro j hj
      rcases (show j = 0 ∨ j = 1 by omega) with rfl | rfl
      · show (w.cell? ⟨g, 2, none⟩).isSome = true; rw [h2]; rfl
      · show (w.cell? ⟨g, 3, none⟩).isSome = true; rw [h3]; rfl
    · intro j hj
      rcases (show j = 0 ∨ j = 1 by omega) with rfl | rfl
      · exact f2
      · exact f3
  generalize List.replicate (1 * 2) (Value.string ⟨#[]⟩) = zs at hcl
  go_enter Try.func34, Try.ntmps34
  go_wp2_with fail
  refine wp_loop_rounds 1 ?_
  rw [rounds_succ]
  go_wp2_with fail
  go_quiet (fail)
  go_wp2_with fail
  refine wp_loop_rounds 1 ?_
  rw [rounds_succ]
  go_wp2_with fail
  go_ret
  exact ⟨rfl, below_setCells g (Nat.le_refl _) _ _ (below_drewN (Below.refl _ _) _)⟩

end Go.Proofs.Ytinmagodckkedab.Z

/-
  The order of keys, in plain lists of bytes.
-/
namespace Go.Proofs.Ytinmagodckkedab.Z

theorem cb_self (a : List UInt8) : Lib.compareBytes a a = 0 := by
  induction a with
  | nil => rfl
  | cons x a ih => unfold Lib.compareBytes; simp [ih]

theorem cb_zero (a b : List UInt8) : Lib.compareBytes a b = 0 ↔ a = b := by
  constructor
  · induction a generalizing b with
    | nil => cases b with
      | nil => intro _; rfl
      | cons y b => intro h; simp [Lib.compareBytes] at h
    | cons x a ih => cases b with
      | nil => intro h; simp [Lib.compareBytes] at h
      | cons y b =>
        intro h
        unfold Lib.compareBytes at h
        split at h
        · simp at h
        · split at h
          · simp at h
          · rename_i h1 h2
            have : x = y := by
              apply UInt8.toNat_inj.1
              rw [UInt8.lt_iff_toNat_lt] at h1 h2
              omega
            rw [this, ih b h]
  · rintro rfl; exact cb_self a

theorem cb_neg (a b : List UInt8) : Lib.compareBytes b a = - Lib.compareBytes a b := by
  induction a generalizing b with
  | nil => cases b <;> simp [Lib.compareBytes]
  | cons x a ih => cases b with
    | nil => simp [Lib.compareBytes]
    | cons y b =>
      unfold Lib.compareBytes
      by_cases h1 : x < y
      · have h2 : ¬ y < x := by rw [UInt8.lt_iff_toNat_lt] at h1 ⊢; omega
        simp [h1, h2]
      · by_cases h2 : y < x
        · simp [h1, h2]
        · simp [h1, h2, ih b]

theorem cb_range (a b : List UInt8) : Lib.compareBytes a b = -1 ∨ Lib.compareBytes a b = 0 ∨ Lib.compareBytes a b = 1 := by
  induction a generalizing b with
  | nil => cases b <;> simp [Lib.compareBytes]
  | cons x a ih => cases b with
    | nil => simp [Lib.compareBytes]
    | cons y b =>
      unfold Lib.compareBytes
      by_cases h1 : x < y
      · simp [h1]
      · by_cases h2 : y < x
        · simp [h1, h2]
        · simpa [h1, h2] using ih b

theorem cb_lt_trans (a b c : List UInt8) (h1 : Lib.compareBytes a b < 0) (h2 : Lib.compareBytes b c < 0) : Lib.compareBytes a c < 0 := by
  induction a generalizing b c with
  | nil => cases c with
    | nil => cases b <;> simp [Lib.compareBytes] at h1 h2
    | cons z c => simp [Lib.compareBytes]
  | cons x a ih => cases b with
    | nil => simp [Lib.compareBytes] at h1
    | cons y b => cases c with
      | nil => simp [Lib.compareBytes] at h2
      | cons z c =>
        unfold Lib.compareBytes at h1 h2 ⊢
        simp only [UInt8.lt_iff_toNat_lt] at h1 h2 ⊢
        by_cases p1 : x.toNat < y.toNat
        · by_cases q1 : y.toNat < z.toNat
          · rw [if_pos (by omega)]; decide
          · rw [if_neg q1] at h2
            by_cases q2 : z.toNat < y.toNat
            · rw [if_pos q2] at h2; simp at h2
            · rw [if_pos (by omega)]; decide
        · rw [if_neg p1] at h1
          by_cases p2 : y.toNat < x.toNat
          · rw [if_pos p2] at h1; simp at h1
          · rw [if_neg p2] at h1
            by_cases q1 : y.toNat < z.toNat
            · rw [if_pos (by omega)]; decide
            · rw [if_neg q1] at h2
              by_cases q2 : z.toNat < y.toNat
              · rw [if_pos q2] at h2; simp at h2
              · rw [if_neg q2] at h2
                rw [if_neg (by omega), if_neg (by omega)]
                exact ih b c h1 h2

theorem cb_less (a b : List UInt8) : decide (Lib.compareBytes a b < 0) = Op.bytesLess a b := by
  induction a generalizing b with
  | nil => cases b <;> simp [Lib.compareBytes, Op.bytesLess]
  | cons x a ih => cases b with
    | nil => simp [Lib.compareBytes, Op.bytesLess]
    | cons y b =>
      unfold Lib.compareBytes Op.bytesLess
      rw [← ih b]
      by_cases h1 : x < y
      · simp [h1]
      · by_cases h2 : y < x
        · have hne : (x == y) = false := by
            rw [beq_eq_false_iff_ne]; rintro rfl; exact h1 h2
          simp [h1, h2, hne]
        · have he : x = y := by
            apply UInt8.toNat_inj.1
            rw [UInt8.lt_iff_toNat_lt] at h1 h2
            omega
          simp [he]

/-- The order of pairs: by the first, then by the second. -/
def pairI (x y : Int) : Int := if x = 0 then y else x

def cmpL (a b c d : List UInt8) : Int := pairI (Lib.compareBytes a c) (Lib.compareBytes b d)

theorem cmpL_cases (a b c d : List UInt8) : (a = c ∧ cmpL a b c d = Lib.compareBytes b d) ∨ (a ≠ c ∧ Lib.compareBytes a c ≠ 0 ∧ cmpL a b c d = Lib.compareBytes a c) := by
  unfold cmpL pairI
  by_cases h : Lib.compareBytes a c = 0
  · left; exact ⟨(cb_zero a c).1 h, by rw [if_pos h]⟩
  · right; exact ⟨fun e => h ((cb_zero a c).2 e), h, by rw [if_neg h]⟩

theorem cmpL_neg (a b c d : List UInt8) : cmpL c d a b = - cmpL a b c d := by
  unfold cmpL pairI
  rw [cb_neg a c, cb_neg b d]
  by_cases h : Lib.compareBytes a c = 0
  · rw [if_pos h, if_pos (by omega)]
  · rw [if_neg h, if_neg (by omega)]

theorem cmpL_range (a b c d : List UInt8) : cmpL a b c d = -1 ∨ cmpL a b c d = 0 ∨ cmpL a b c d = 1 := by
  rcases cmpL_cases a b c d with ⟨_, h⟩ | ⟨_, _, h⟩ <;> rw [h] <;> exact cb_range _ _

theorem cmpL_zero (a b c d : List UInt8) : cmpL a b c d = 0 ↔ a = c ∧ b = d := by
  rcases cmpL_cases a b c d with ⟨h1, h⟩ | ⟨h1, h2, h⟩
  · rw [h, cb_zero]; exact ⟨fun e => ⟨h1, e⟩, fun e => e.2⟩
  · rw [h]; exact ⟨fun e => absurd e h2, fun e => absurd e.1 h1⟩

theorem cmpL_lt_trans (a b c d e f : List UInt8) (h1 : cmpL a b c d < 0) (h2 : cmpL c d e f < 0) : cmpL a b e f < 0 := by
  rcases cmpL_cases a b c d with ⟨p1, p⟩ | ⟨p1, _, p⟩ <;> rcases cmpL_cases c d e f with ⟨q1, q⟩ | ⟨q1, _, q⟩ <;> rcases cmpL_cases a b e f with ⟨r1, r⟩ | ⟨r1, _, r⟩ <;> rw [p] at h1 <;> rw [q] at h2 <;> rw [r]
  · exact cb_lt_trans _ _ _ h1 h2
  · exact absurd (p1.trans q1) r1
  · exact absurd (p1.symm.trans r1) q1
  · rw [p1]; exact h2
  · exact absurd (r1.trans q1.symm) p1
  · rw [← q1]; exact h1
  · have := cb_lt_trans _ _ _ h1 h2; rw [r1, cb_self] at this; omega
  · exact cb_lt_trans _ _ _ h1 h2

theorem cmpL_le_trans (a b c d e f : List UInt8) (h1 : cmpL a b c d ≤ 0) (h2 : cmpL c d e f ≤ 0) : cmpL a b e f ≤ 0 := by
  by_cases p : cmpL a b c d = 0
  · obtain ⟨rfl, rfl⟩ := (cmpL_zero _ _ _ _).1 p; exact h2
  · by_cases q : cmpL c d e f = 0
    · obtain ⟨rfl, rfl⟩ := (cmpL_zero _ _ _ _).1 q; exact h1
    · have := cmpL_lt_trans a b c d e f (by omega) (by omega); omega

/-- What the document says: by the type, then by the id, each by bytes. -/
theorem cmpL_less (a b c d : List UInt8) : decide (cmpL a b c d < 0) = (Op.bytesLess a c || (a == c && Op.bytesLess b d)) := by
  rw [← cb_less, ← cb_less]
  rcases cmpL_cases a b c d with ⟨h1, h⟩ | ⟨h1, h2, h⟩
  · subst h1; rw [h, cb_self]; simp
  · have hne : (a == c) = false := beq_eq_false_iff_ne.2 h1
    rw [h, hne]; simp

end Go.Proofs.Ytinmagodckkedab.Z

/-
  Sort of package name at two keys that are one.
-/
namespace Go.Proofs.Ytinmagodckkedab.Z
open Go.RowKit Go.Sort Go.Lib

def encKey (x : ByteArray × ByteArray) : List Value := [.string x.1, .string x.2]
def cmpK (x y : ByteArray × ByteArray) : Int := cmpI x.1 x.2 y.1 y.2

theorem cmpI_eq (a b c d : ByteArray) : cmpI a b c d = cmpL a.data.toList b.data.toList c.data.toList d.data.toList := rfl

theorem ltK (x y : ByteArray × ByteArray) : ltOf cmpK x y = decide (cmpL x.1.data.toList x.2.data.toList y.1.data.toList y.2.data.toList < 0) := rfl

theorem swoK : SWO (ltOf cmpK) where
  irrefl x := by rw [ltK, (cmpL_zero _ _ _ _).2 ⟨rfl, rfl⟩]; rfl
  trans x y z h1 h2 := by
    rw [ltK, decide_eq_true_iff] at *
    exact cmpL_lt_trans _ _ _ _ _ _ h1 h2
  ntrans x y z h1 h2 := by
    rw [ltK, decide_eq_false_iff_not] at *
    intro h
    have n1 := cmpL_neg x.1.data.toList x.2.data.toList y.1.data.toList y.2.data.toList
    have n2 := cmpL_neg y.1.data.toList y.2.data.toList z.1.data.toList z.2.data.toList
    have n3 := cmpL_neg x.1.data.toList x.2.data.toList z.1.data.toList z.2.data.toList
    have := cmpL_le_trans z.1.data.toList z.2.data.toList y.1.data.toList y.2.data.toList x.1.data.toList x.2.data.toList (by omega) (by omega)
    omega

theorem three_new (W : World) (o1 o2 o3 : Obj) : (((W.alloc o1).alloc o2).alloc o3).drew = grow (W.drewN 1) #[o1, o2, o3] := by
  rw [alloc_eq_grow, alloc_eq_grow, alloc_eq_grow, grow_grow, grow_grow]; rfl

theorem cmpLaysK (blk off size : Nat) (w : World) : CmpLays Try.prog 33 #[] encKey 2 cmpK blk off size w :=
  fun _ _ _ _ x y => (compare_eq x.1 x.2 y.1 y.2 _).mono fun _ _ ⟨h1, h2⟩ => ⟨h1, 1, _, h2.trans (three_new _ _ _ _)⟩

theorem enters23 : ∀ args w, (callFunc 33 args).run Try.prog w = .ok (.enter 33 args) w := enters_of Try.func33 (by kernel_rfl) rfl

theorem zsortfunc_any (blk off cap : Nat) (d : Array (ByteArray × ByteArray)) (w : World) (hH : HoldsK encKey 2 w blk off d) (hblk : blk < w.heap.size) (hsz : d.size < 4611686018427387904) :
    Calls Try.prog 32 #[.slice (some ⟨blk, off, none⟩) d.size cap, .func (.func 33) #[] #[]] w fun e w' =>
      e = .returned (.tuple #[]) ∧ ∃ d' n os, PermIn 0 d.size d d' ∧ SortedIn (ltOf cmpK) 0 d.size d' ∧ w' = sortWorldK encKey 2 w blk off n d' os :=
  AnyQ.slices_SortFunc Try.sortKey 2 Try.isAgg33 Try.sizeOf33 encKey (fun _ => rfl) (fun x v hv => by simp [encKey] at hv; rcases hv with rfl | rfl <;> rfl) cmpK swoK 33 #[] blk off cap d w enters23 (cmpLaysK blk off d.size w) hH hblk hsz

theorem zclone_any (b off n c : Nat) (news : List Value) (w : World) (hl : news.length = n * 2) (hn : n ≤ maxLen) (hbig : n * 32 ≤ 140737488355328)
    (hc : ∀ j u, news[j]? = some u → w.cell? ⟨b, off + j, none⟩ = some u) (h1 : ∀ u ∈ news, u.oneCell' = true) :
    Calls Try.prog 31 #[.slice (some ⟨b, off, none⟩) n c] w fun e w' => ∃ v', e = .returned v' ∧ w'.ownsRow w.heap.size 33 2 v' n news ∧ v' ≠ .slice none 0 0 ∧ Below w.heap.size w w' := by
  have hs : (Try.prog.info? 33).isSome = true := by kernel_rfl
  have hi : ∃ i0, Try.prog.info? 33 = some i0 ∧ i0.zero = some (.agg #[.string ⟨#[]⟩, .string ⟨#[]⟩]) ∧ i0.size = 2 ∧ i0.bytes = 32 :=
    ⟨(Try.prog.info? 33).get hs, (Option.some_get hs).symm, by kernel_rfl, by kernel_rfl, by kernel_rfl⟩
  obtain ⟨i0, e1, e2, e3, e4⟩ := hi
  exact AnyE.slices_Clone Try.cloneKey i0 _ 2 32 e1 e2 e3 e4 rfl (by omega) Try.sizeOf33 b off n c news w hl hn hbig hc h1

/-- The cells of a row of keys. -/
def cellsK (d : Array (ByteArray × ByteArray)) : List Value := d.toList.flatMap encKey

theorem below_sortWorld {B : Nat} {w0 w : World} (h : Below B w0 w) (hB : B ≤ w.heap.size) (blk off n : Nat) (d : Array (ByteArray × ByteArray)) (os : Array Obj) (hb : B ≤ blk) : Below B w0 (sortWorldK encKey 2 w blk off n d os) := by
  refine h.trans ⟨rfl, rfl, rfl, ?_, ?_⟩
  · simp [sortWorldK, putRowK]
  · intro k hk
    have hks : k < w.heap.size := by omega
    simp only [sortWorldK, grow, putRowK, putRow, mapBlock, Sort.ahead]
    rw [Array.getElem?_append_left (by simpa using hks), Array.getElem?_modify, if_neg (by omega)]

theorem flat_get (l : List (ByteArray × ByteArray)) (t : Nat) (h : t < l.length * 2) : (l.flatMap encKey)[t]? = some (encKey (l[t / 2]!))[t % 2]! := by
  induction l generalizing t with
  | nil => simp at h
  | cons x l ih =>
    rw [List.flatMap_cons]
    by_cases h2 : t < 2
    · rcases (show t = 0 ∨ t = 1 by omega) with rfl | rfl <;> simp [encKey]
    · obtain ⟨u, rfl⟩ : ∃ u, t = u + 2 := ⟨t - 2, by omega⟩
      have hl : (encKey x).length = 2 := rfl
      rw [List.getElem?_append_right (by omega), hl, show u + 2 - 2 = u by omega, ih u (by simp at h; omega), show (u + 2) / 2 = u / 2 + 1 by omega, show (u + 2) % 2 = u % 2 by omega]
      simp

theorem holds_of_heap {w : World} {g : Nat} {cur : Array Value} {e : TypeId} (d : Array (ByteArray × ByteArray)) (hheap : w.heap[g]? = some (.cells cur e (0, 0))) (htake : cur.toList.take (d.size * 2) = cellsK d) : HoldsK encKey 2 w g 0 d := by
  intro j hj
  rw [size_flatK] at hj
  have hg := flat_get d.toList j (by simpa using hj)
  have h1 : (cur.toList.take (d.size * 2))[j]? = some (encKey (d.toList[j / 2]!))[j % 2]! := by rw [htake]; exact hg
  rw [List.getElem?_take_of_lt hj] at h1
  rw [get_flatK _ _ _ _ hj]
  constructor
  · simp only [World.cell?, hheap, Nat.zero_add]
    have he : d.toList[j / 2]! = d[j / 2]! := by
      rw [getElem!_pos d (j / 2) (by omega), getElem!_pos d.toList (j / 2) (by simp; omega)]; simp
    rw [← Array.getElem?_toList, h1, he]
    rfl
  · simp [World.frozen?, hheap]

end Go.Proofs.Ytinmagodckkedab.Z

/-
  Rows of keys in memory: their cells, and what a slice of keys holds.
-/
namespace Go.Proofs.Ytinmagodckkedab.Z
open Go.RowKit

def cellsL (d : List (ByteArray × ByteArray)) : List Value := d.flatMap encKey

theorem cellsL_cons (x : ByteArray × ByteArray) (d : List (ByteArray × ByteArray)) : cellsL (x :: d) = .string x.1 :: .string x.2 :: cellsL d := rfl
theorem cellsL_append (d e : List (ByteArray × ByteArray)) : cellsL (d ++ e) = cellsL d ++ cellsL e := List.flatMap_append
theorem cellsL_length (d : List (ByteArray × ByteArray)) : (cellsL d).length = d.length * 2 := by
  induction d with
  | nil => rfl
  | cons x d ih => rw [cellsL_cons]; simp [ih]; omega
theorem cellsL_one (d : List (ByteArray × ByteArray)) : ∀ u ∈ cellsL d, u.oneCell' = true := by
  intro u hu
  obtain ⟨x, _, hx⟩ := List.mem_flatMap.1 hu
  simp [encKey] at hx
  rcases hx with rfl | rfl <;> rfl
theorem cellsL_get (d : List (ByteArray × ByteArray)) (i : Nat) (h : i < d.length) : (cellsL d)[i * 2]? = some (.string d[i].1) ∧ (cellsL d)[i * 2 + 1]? = some (.string d[i].2) := by
  induction d generalizing i with
  | nil => simp at h
  | cons x d ih =>
    rw [cellsL_cons]
    cases i with
    | zero => simp
    | succ i =>
      have := ih i (by simpa using h)
      rw [show (i + 1) * 2 = i * 2 + 1 + 1 by omega]
      simpa using this
theorem cellsL_set (d : List (ByteArray × ByteArray)) (i : Nat) (a b : ByteArray) (h : i < d.length) : ((cellsL d).set (i * 2) (.string a)).set (i * 2 + 1) (.string b) = cellsL (d.set i (a, b)) := by
  induction d generalizing i with
  | nil => simp at h
  | cons x d ih =>
    rw [cellsL_cons]
    cases i with
    | zero => simp [cellsL_cons]
    | succ i =>
      rw [show (i + 1) * 2 = i * 2 + 1 + 1 by omega]
      simp only [List.set_cons_succ, cellsL_cons]
      rw [ih i (by simpa using h)]
theorem cellsL_take (d : List (ByteArray × ByteArray)) (k : Nat) : (cellsL d).take (k * 2) = cellsL (d.take k) := by
  induction d generalizing k with
  | nil => simp [cellsL]
  | cons x d ih =>
    cases k with
    | zero => simp [cellsL]
    | succ k => rw [show (k + 1) * 2 = k * 2 + 1 + 1 by omega, cellsL_cons]; simp [ih, cellsL_cons]

/-- The keys d lie from off on in block b. -/
def KeysAt (w : World) (b off : Nat) (d : List (ByteArray × ByteArray)) : Prop :=
  ∀ i, (h : i < d.length) → w.cell? ⟨b, off + i * 2, none⟩ = some (.string d[i].1) ∧ w.cell? ⟨b, off + i * 2 + 1, none⟩ = some (.string d[i].2)

/-- v is a slice that holds the keys d. -/
def IsKeys (w : World) (v : Value) (d : List (ByteArray × ByteArray)) : Prop :=
  ∃ p cap, v = .slice p d.length cap ∧ (d = [] ∨ ∃ b off, p = some ⟨b, off, none⟩ ∧ KeysAt w b off d)

theorem KeysAt.kept {W w' : World} {b off : Nat} {d : List (ByteArray × ByteArray)} (h : KeysAt W b off d) (hq : Below W.heap.size W w') : KeysAt w' b off d := by
  intro i hi
  have hc := bcell hq
  obtain ⟨h1, h2⟩ := h i hi
  have lt : b < W.heap.size := by
    rcases Nat.lt_or_ge b W.heap.size with h' | h'
    · exact h'
    · simp [World.cell?, Array.getElem?_eq_none h'] at h1
  exact ⟨by rw [hc.1 _ _ lt]; exact h1, by rw [hc.1 _ _ lt]; exact h2⟩
theorem IsKeys.kept {W w' : World} {v : Value} {d : List (ByteArray × ByteArray)} (h : IsKeys W v d) (hq : Below W.heap.size W w') : IsKeys w' v d := by
  obtain ⟨p, cap, rfl, h | ⟨b, off, rfl, h⟩⟩ := h
  · exact ⟨p, cap, rfl, .inl h⟩
  · exact ⟨_, cap, rfl, .inr ⟨b, off, rfl, h.kept hq⟩⟩

/-- v is a slice of the call's own that holds the keys d. -/
def Own (w : World) (base : Nat) (v : Value) (d : List (ByteArray × ByteArray)) : Prop := w.ownsRow base 33 2 v d.length (cellsL d)

theorem Own.keysAt {w : World} {base g n cap : Nat} {d : List (ByteArray × ByteArray)} (h : Own w base (.slice (some ⟨g, 0, none⟩) n cap) d) : n = d.length ∧ KeysAt w g 0 d := by
  have hn : n = d.length := by
    rcases h.2 with ⟨h', _⟩ | ⟨_, _, _, h', _⟩
    · simp at h'
    · simp only [Value.slice.injEq] at h'; exact h'.2.1
  subst hn
  refine ⟨rfl, fun i hi => ?_⟩
  have e := cellsL_get d i hi
  rw [Nat.zero_add, World.ownsRow.cellAt h (i * 2) (by omega), World.ownsRow.cellAt h (i * 2 + 1) (by omega)]
  exact e
theorem Own.is {w : World} {base : Nat} {v : Value} {d : List (ByteArray × ByteArray)} (h : Own w base v d) : IsKeys w v d := by
  rcases h.2 with ⟨rfl, h0⟩ | ⟨g, cap, cur, rfl, _⟩
  · exact ⟨none, 0, by rw [h0], .inl (List.eq_nil_of_length_eq_zero h0)⟩
  · exact ⟨_, cap, rfl, .inr ⟨g, 0, rfl, h.keysAt.2⟩⟩

end Go.Proofs.Ytinmagodckkedab.Z

/-
  The contract of SameKeys.
-/
namespace Go.Proofs.Ytinmagodckkedab.Z
open Go.RowKit

theorem eqK_iff (x y : ByteArray × ByteArray) : eqK x.1 x.2 y.1 y.2 = decide (x = y) := by
  unfold eqK
  rw [Lib.toList_data, Lib.toList_data, Lib.toList_data, Lib.toList_data, Bool.eq_iff_iff, decide_eq_true_iff]
  obtain ⟨⟨⟨a⟩⟩, ⟨⟨b⟩⟩⟩ := x
  obtain ⟨⟨⟨c⟩⟩, ⟨⟨d⟩⟩⟩ := y
  simp

set_option maxHeartbeats 1000000 in
theorem zsame_any (v1 v2 : Value) (d1 d2 : List (ByteArray × ByteArray)) (w : World) (h1 : IsKeys w v1 d1) (h2 : IsKeys w v2 d2) (hl1 : d1.length ≤ maxLen) (hl2 : d2.length ≤ maxLen) :
    Calls Try.prog 10 #[v1, v2] w fun e w' => e = .returned (.bool (decide (d1 = d2))) ∧ ∃ n, w' = w.drewN n := by
  unfold maxLen at hl1 hl2
  obtain ⟨p1, c1, rfl, k1⟩ := h1
  obtain ⟨p2, c2, rfl, k2⟩ := h2
  by_cases hl : d1.length = d2.length
  · have hb : ((d1.length : Int) != (d2.length : Int)) = false := by simp [hl]
    rcases k1 with rfl | ⟨b1, o1, rfl, k1⟩
    · have hd : d2 = [] := by
        cases d2 with
        | nil => rfl
        | cons _ _ => simp at hl
      subst hd
      go_enter Try.func10, Try.ntmps10
      go_wp2
      refine wp_loop_rounds 1 ?_
      rw [rounds_succ]
      go_wp2
      go_ret
      exact ⟨rfl, 0, rfl⟩
    · rcases k2 with rfl | ⟨b2, o2, rfl, k2⟩
      · have hd : d1 = [] := by
          cases d1 with
          | nil => rfl
          | cons _ _ => simp at hl
        subst hd
        go_enter Try.func10, Try.ntmps10
        go_wp2
        refine wp_loop_rounds 1 ?_
        rw [rounds_succ]
        go_wp2
        go_ret
        exact ⟨rfl, 0, rfl⟩
      · have HL := hid hl
        have K1 := hid k1
        have K2 := hid k2
        clear hl k1 k2
        go_enter Try.func10, Try.ntmps10
        go_wp2
        go_loopw [5] (fun i wr => ∃ k q : Nat, k ≤ d1.length ∧ i = .int .i64 k ∧ wr = w.drewN q ∧ ∀ j, (hj : j < k) → d1[j]? = d2[j]?) (fun i _ => d1.length - (intOf i).toNat)
        case atStart => exact ⟨0, 0, by omega, rfl, rfl, fun j hj => by omega⟩
        case round =>
          obtain ⟨k, q, hk, rfl, rfl, hall⟩ := hrel
          have HA := hid hall
          clear hall
          by_cases hlt : k < d1.length
          · have hlt2 : k < d2.length := by rw [← HL.out]; exact hlt
            obtain ⟨e1, e2⟩ := K1.out k hlt
            obtain ⟨f1, f2⟩ := K2.out k hlt2
            have hne := fun W => neq_key d1[k].1 d1[k].2 d2[k].1 d2[k].2 W
            rw [eqK_iff] at hne
            have HG : Hid (d1[k]? = some d1[k] ∧ d2[k]? = some d2[k]) := ⟨List.getElem?_eq_getElem hlt, List.getElem?_eq_getElem hlt2⟩
            generalize d1[k] = x at *
            generalize d2[k] = y at *
            obtain ⟨x1, x2⟩ := x
            obtain ⟨y1, y2⟩ := y
            have i1 : (0 : Int) ≤ ↑k := by omega
            have i2 : (↑k : Int) < ↑d1.length := by omega
            have i3 : (↑k : Int) < ↑d2.length := by omega
            by_cases hxy : (x1, x2) = (y1, y2)
            · have hd : decide ((x1, x2) = (y1, y2)) = true := by simp [hxy]
              rw [hd] at hne
              have HX := hid hxy
              clear hxy hd
              go_wp2_with fail
              go_quiet (fail)
              go_wp2_with fail
              refine ⟨⟨k + 1, _, by omega, by go_num, rfl, fun j hj => ?_⟩, by simp [intOf]; omega⟩
              by_cases hjk : j = k
              · subst hjk; rw [HG.out.1, HG.out.2, HX.out]
              · exact HA.out j (by omega)
            · have hd : decide ((x1, x2) = (y1, y2)) = false := by simpa using hxy
              rw [hd] at hne
              have HX := hid hxy
              clear hxy hd
              go_wp2_with fail
              go_quiet (fail)
              go_wp2_with fail
              go_ret
              refine ⟨ret_bool ?_, q + nq, by simp⟩
              symm
              rw [decide_eq_false_iff_not]
              intro he
              apply HX.out
              have := HG.out.1
              rw [he, HG.out.2] at this
              exact (Option.some.inj this).symm
          · go_wp2
            go_ret
            refine ⟨ret_bool ?_, _, rfl⟩
            symm
            rw [decide_eq_true_iff]
            apply List.ext_getElem?
            intro j
            by_cases hj : j < k
            · exact HA.out j hj
            · have := HL.out
              rw [List.getElem?_eq_none (by omega), List.getElem?_eq_none (by omega)]
  · have hb : ((d1.length : Int) != (d2.length : Int)) = true := by rw [bne_iff_ne]; omega
    have hd : decide (d1 = d2) = false := by
      rw [decide_eq_false_iff_not]; rintro rfl; exact hl rfl
    have HD := hid hd
    clear hl k1 k2 hd
    go_enter Try.func10, Try.ntmps10
    go_wp2
    go_ret
    exact ⟨ret_bool HD.out.symm, 0, rfl⟩

end Go.Proofs.Ytinmagodckkedab.Z

/-
  slices.Compact at keys, whatever their number.
-/
namespace Go.Proofs.Ytinmagodckkedab.Z
open Go.RowKit Go.Lib

theorem toArray_get! (d : List (ByteArray × ByteArray)) (i : Nat) (h : i < d.length) : d.toArray[i]! = d[i] := by
  rw [getElem!_pos d.toArray i (by simpa using h)]; simp

theorem zown_at {w : World} {base g n cap : Nat} {dk : Array (ByteArray × ByteArray)} (h : Own w base (.slice (some ⟨g, 0, none⟩) n cap) dk.toList) (i : Nat) (hi : i < dk.size) :
    w.cell? ⟨g, i * 2, none⟩ = some (.string dk[i]!.1) ∧ w.cell? ⟨g, i * 2 + 1, none⟩ = some (.string dk[i]!.2) ∧ w.frozen? ⟨g, i * 2, none⟩ = false ∧ w.frozen? ⟨g, i * 2 + 1, none⟩ = false := by
  obtain ⟨rfl, hk⟩ := h.keysAt
  have := hk i (by simpa using hi)
  rw [Nat.zero_add] at this
  have e : dk.toList[i]'(by simpa using hi) = dk[i]! := by rw [getElem!_pos dk i hi]; simp
  rw [e] at this
  exact ⟨this.1, this.2, World.ownsRow.frozenAt h _, World.ownsRow.frozenAt h _⟩

theorem zown_frozen {w : World} {base g n cap : Nat} {d : List (ByteArray × ByteArray)} (h : Own w base (.slice (some ⟨g, 0, none⟩) n cap) d) (j : Nat) : w.frozen? ⟨g, j, none⟩ = false := by
  obtain ⟨rfl, _⟩ := h.keysAt
  exact World.ownsRow.frozenAt h j
theorem zown_some {w : World} {base g n cap : Nat} {d : List (ByteArray × ByteArray)} (h : Own w base (.slice (some ⟨g, 0, none⟩) n cap) d) (j : Nat) (hj : j < d.length * 2) : (w.cell? ⟨g, j, none⟩).isSome = true := by
  obtain ⟨rfl, _⟩ := h.keysAt
  rw [World.ownsRow.cellAt h j hj, List.getElem?_eq_getElem (by rw [cellsL_length]; exact hj)]
  rfl

theorem zown_store {w : World} {base g n cap : Nat} {dk : Array (ByteArray × ByteArray)} (h : Own w base (.slice (some ⟨g, 0, none⟩) n cap) dk.toList) (i : Nat) (hi : i < dk.size) (a b : ByteArray) :
    Own ((w.setCell ⟨g, i * 2, none⟩ (.string a)).setCell ⟨g, i * 2 + 1, none⟩ (.string b)) base (.slice (some ⟨g, 0, none⟩) n cap) (dk.setIfInBounds i (a, b)).toList := by
  obtain ⟨rfl, _⟩ := h.keysAt
  have h1 := (World.ownsRow.stored h (i * 2) (.string a)).1
  have h2 := (World.ownsRow.stored h1 (i * 2 + 1) (.string b)).1
  rw [cellsL_set _ _ _ _ (by simpa using hi)] at h2
  unfold Own
  simpa using h2

theorem zown_cut {w : World} {base g n cap : Nat} {xs : List Value} (h : w.ownsRow base 33 2 (.slice (some ⟨g, 0, none⟩) n cap) n xs) (k : Nat) (hk : k ≤ n) :
    w.ownsRow base 33 2 (.slice (some ⟨g, 0, none⟩) k cap) k (xs.take (k * 2)) := by
  obtain ⟨hl, h' | ⟨g', cap', cur, h', hb, hg, hnc, hcm, hcs, ht⟩⟩ := h
  · simp at h'
  · simp only [Value.slice.injEq, Option.some.injEq, Addr.mk.injEq, and_true, true_and] at h'
    obtain ⟨rfl, rfl⟩ := h'
    refine ⟨by rw [List.length_take, hl]; omega, .inr ⟨g, cap, cur, rfl, hb, hg, by omega, hcm, hcs, ?_⟩⟩
    rw [← ht, List.take_take, Nat.min_eq_left (by omega)]

theorem zown_setCells {base g k cap : Nat} {xs : List Value} : ∀ (vs : List Value) (o : Nat) (w : World), k * 2 ≤ o → w.ownsRow base 33 2 (.slice (some ⟨g, 0, none⟩) k cap) k xs →
    (w.setCells g o vs).ownsRow base 33 2 (.slice (some ⟨g, 0, none⟩) k cap) k xs
  | [], _, _, _, h => h
  | v :: vs, o, w, ho, h => by
    unfold World.setCells
    refine zown_setCells vs (o + 1) _ (by omega) ?_
    have := (World.ownsRow.stored h o v).1
    rwa [List.set_eq_of_length_le (by rw [h.1]; omega)] at this

theorem comp_done {d : List (ByteArray × ByteArray)} {kk : Nat} {dk : Array (ByteArray × ByteArray)} (hI : CompInv d.toArray d.length kk dk) : compact d = dk.toList.take kk := by
  have hs : dk.size = d.length := by simpa using hI.size
  have hlt := hI.lt
  unfold compact
  apply List.ext_getElem?
  intro j
  by_cases hj : j < kk
  · rw [hI.low j hj, List.getElem?_take_of_lt hj, List.getElem?_eq_getElem (by simp; omega), getElem!_pos dk j (by omega)]
    simp
  · rw [List.getElem?_eq_none (by rw [hI.len]; omega), List.getElem?_eq_none (by rw [List.length_take]; omega)]

set_option maxHeartbeats 2000000 in
theorem zcompact_own (g cap base : Nat) (d : List (ByteArray × ByteArray)) (w : World) (hown : Own w base (.slice (some ⟨g, 0, none⟩) d.length cap) d) (hcap : d.length ≤ cap) (hm : cap ≤ maxLen) :
    Calls Try.prog 34 #[.slice (some ⟨g, 0, none⟩) d.length cap] w fun e w' =>
      e = .returned (.slice (some ⟨g, 0, none⟩) (compact d).length cap) ∧ Own w' base (.slice (some ⟨g, 0, none⟩) (compact d).length cap) (compact d) ∧ Below g w w' := by
  unfold maxLen at hm
  have HO := hid hown
  clear hown
  have hsame : (∀ j, j < d.length → keeps d.toArray j = true) → compact d = d := compact_all d
  have HS := hid hsame
  clear hsame
  have heq := fun a b c d w => eql_key a b c d w
  have hneq := fun a b c d w => neq_key a b c d w
  by_cases h2 : d.length < 2
  · have h2' : (d.length : Int) < 2 := by omega
    go_enter Try.func34, Try.ntmps34
    go_wp2
    go_ret
    have e := HS.out (fun j hj => keeps_lt_one _ j (by omega))
    rw [e]
    exact ⟨rfl, HO.out, Below.refl _ _⟩
  · have h2' : ¬ (d.length : Int) < 2 := by omega
    go_enter Try.func34, Try.ntmps34
    go_wp2
    go_loopg [3] d.length (fun gh s3 wr => ∃ k q : Nat, 1 ≤ k ∧ k ≤ d.length ∧ d.length - k ≤ gh ∧ s3 = .int .i64 k ∧ wr = w.drewN q ∧ ∀ j, j < k → keeps d.toArray j = true)
    case atStart => exact ⟨1, 0, Nat.le_refl _, by omega, by omega, rfl, rfl, keeps_lt_one _⟩
    case round =>
      obtain ⟨k, q, hk1, hk, hg, rfl, rfl, hall⟩ := hrel
      have HA := hid hall
      clear hall
      by_cases hlt : k < d.length
      · have hD : d = d.toArray.toList := by simp
        have ho' : Own w base (.slice (some ⟨g, 0, none⟩) d.length cap) d.toArray.toList := by rw [← hD]; exact HO.out
        obtain ⟨a1, a2, _, _⟩ := zown_at ho' k (by simpa using hlt)
        obtain ⟨p1, p2, _, _⟩ := zown_at ho' (k - 1) (by simp; omega)
        have HV : Hid (d.toArray[k]! = d.toArray[k]! ∧ d.toArray[k - 1]! = d.toArray[k - 1]!) := ⟨rfl, rfl⟩
        have HO' := hid ho'
        clear ho' hD
        have hx : ∃ x y, d.toArray[k]! = x ∧ d.toArray[k - 1]! = y := ⟨_, _, rfl, rfl⟩
        obtain ⟨⟨x1, x2⟩, ⟨y1, y2⟩, ex, ey⟩ := hx
        rw [ex] at a1 a2
        rw [ey] at p1 p2
        have HE := hid (And.intro ex ey)
        clear ex ey HV
        have i1 : (0 : Int) ≤ ↑k - 1 := by omega
        have i2 : (↑k : Int) < ↑d.length := by omega
        have i3 : (↑k - 1 : Int) < ↑d.length := by omega
        by_cases hdup : (x1, x2) = (y1, y2)
        · obtain ⟨rfl, rfl⟩ := Prod.mk.inj hdup
          have hk2 := eqK_self x1 x2
          go_wp2_with fail
          go_quiet (fail)
          go_wp2_with fail
          have hstart : CompInv d.toArray (k + 1) k d.toArray := CompInv.start HA.out (keeps_neg (by omega) (by rw [HE.out.1, HE.out.2]))
          have HST := hid hstart
          clear hstart a1 a2 p1 p2 i1 i2 i3 hk2
          go_loopg [3, 5] d.length (fun gh s3 s5 wr => ∃ (kk k2 : Nat) (dk : Array (ByteArray × ByteArray)), s3 = .int .i64 kk ∧ s5 = .int .i64 k2 ∧ 1 ≤ k2 ∧ k + k2 ≤ d.length ∧ d.length - (k + k2) ≤ gh ∧ Own wr base (.slice (some ⟨g, 0, none⟩) d.length cap) dk.toList ∧ Below g w wr ∧ CompInv d.toArray (k + k2) kk dk)
          case atStart => exact ⟨k, 1, d.toArray, rfl, rfl, Nat.le_refl _, by omega, by omega, HO'.out, below_drewN (Below.refl _ _) _, HST.out⟩
          case round =>
            obtain ⟨kk, k2, dk, rfl, rfl, h1, hle, hg2, ho2, hb2, hI⟩ := hrel
            have hkk := hI.lt
            have hds : dk.size = d.length := by simpa using hI.size
            have HI := hid hI
            have HO2 := hid ho2
            have HB2 := hid hb2
            by_cases hlt2 : k + k2 < d.length
            · obtain ⟨a1, a2, _, _⟩ := zown_at ho2 (k + k2) (by omega)
              obtain ⟨p1, p2, _, _⟩ := zown_at ho2 (k + k2 - 1) (by omega)
              obtain ⟨b1, b2, b3, b4⟩ := zown_at ho2 kk (by omega)
              rw [hI.high (k + k2) (by omega), show (k + k2) * 2 = k * 2 + k2 * 2 by omega] at a1 a2
              rw [hI.high (k + k2 - 1) (by omega), show (k + k2 - 1) * 2 = k * 2 + (k2 - 1) * 2 by omega] at p1 p2
              have hx : ∃ x y, d.toArray[k + k2]! = x ∧ d.toArray[k + k2 - 1]! = y := ⟨_, _, rfl, rfl⟩
              obtain ⟨⟨u1, u2⟩, ⟨v1, v2⟩, ex, ey⟩ := hx
              rw [ex] at a1 a2
              rw [ey] at p1 p2
              have HU := hid (And.intro ex ey)
              clear ex ey ho2 hb2 hI
              generalize dk[kk]!.1 = o1 at *
              generalize dk[kk]!.2 = o2 at *
              have i1 : (0 : Int) ≤ ↑k2 - 1 := by omega
              have i2 : (↑k2 : Int) < ↑(d.length - k) := by omega
              have i3 : (↑k2 - 1 : Int) < ↑(d.length - k) := by omega
              by_cases huv : (u1, u2) = (v1, v2)
              · obtain ⟨rfl, rfl⟩ := Prod.mk.inj huv
                have hk2 := eqK_self u1 u2
                go_wp2_with fail
                go_quiet (fail)
                go_wp2_with fail
                go_roundg (d.length - (k + (k2 + 1)))
                case measure => omega
                case rel => exact ⟨kk, k2 + 1, dk, rfl, by go_num, by omega, by omega, Nat.le_refl _, HO2.out, below_drewN HB2.out _, HI.out.skip (keeps_neg (by omega) (by rw [HU.out.1, HU.out.2]))⟩
              · have hk2 : eqK u1 u2 v1 v2 = false := by rw [eqK_iff (u1, u2) (v1, v2)]; simpa using huv
                have HN := hid huv
                clear huv
                go_wp2_with fail
                go_quiet (fail)
                go_wp2_with fail
                go_roundg (d.length - (k + (k2 + 1)))
                case measure => omega
                case rel =>
                  refine ⟨kk + 1, k2 + 1, dk.setIfInBounds kk (u1, u2), by go_num, by go_num, by omega, by omega, Nat.le_refl _, zown_store HO2.out kk (by omega) u1 u2, below_drewN ((HB2.out.setCell (Nat.le_refl _) _).setCell (Nat.le_refl _) _) _, ?_⟩
                  have := HI.out.keep (by simpa using hlt2) (keeps_pos (by rw [HU.out.1, HU.out.2]; exact HN.out))
                  rwa [HU.out.1] at this
            · have hend : k + k2 = d.length := by omega
              have hcl : ∀ ty, (Builtin.clear_ #[28] ty #[.slice (some ⟨g, kk * 2, none⟩) (d.length - kk) (cap - kk)]).run Try.prog wr = .ok (.tuple #[]) (wr.setCells g (kk * 2) (List.replicate ((d.length - kk) * 2) (.string ⟨#[]⟩))) := by
                intro ty
                refine run_clear_key wr ty g (kk * 2) (d.length - kk) (cap - kk) (by omega) ?_ ?_
                · intro j hj
                  exact zown_some ho2 _ (by rw [Array.length_toList]; omega)
                · intro j _
                  exact zown_frozen ho2 _
              generalize hz : List.replicate ((d.length - kk) * 2) (Value.string ⟨#[]⟩) = zs at hcl
              have hdone : compact d = dk.toList.take kk := by
                rw [hend] at hI
                exact comp_done hI
              have HD := hid hdone
              clear hz hdone hI ho2 hb2
              have hlen0 : ¬ k + k2 < d.length := hlt2
              go_wp2_with fail
              go_ret
              have hlk : (compact d).length = kk := by rw [HD.out, List.length_take, Array.length_toList]; omega
              rw [hlk]
              refine ⟨rfl, ?_, below_setCells g (Nat.le_refl _) _ _ HB2.out⟩
              have ho3 := HO2.out
              have hl3 : dk.toList.length = d.length := by rw [Array.length_toList]; exact hds
              unfold Own at ho3 ⊢
              rw [hl3] at ho3
              have h4 := zown_setCells zs (kk * 2) wr (Nat.le_refl _) (zown_cut ho3 kk (by omega))
              rw [cellsL_take, ← HD.out] at h4
              rw [hlk]
              exact h4
        · have hk2 : eqK x1 x2 y1 y2 = false := by rw [eqK_iff (x1, x2) (y1, y2)]; simpa using hdup
          have HN := hid hdup
          clear hdup
          go_wp2_with fail
          go_quiet (fail)
          go_wp2_with fail
          go_roundg (d.length - (k + 1))
          case measure => omega
          case rel =>
            refine ⟨k + 1, q + nq, by omega, by omega, Nat.le_refl _, by go_num, by simp, fun j hj => ?_⟩
            by_cases e : j = k
            · subst e
              exact keeps_pos (by rw [HE.out.1, HE.out.2]; exact HN.out)
            · exact HA.out j (by omega)
      · have hkd : k = d.length := by omega
        have e := HS.out (fun j hj => HA.out j (by omega))
        have HE := hid e
        clear e hkd
        go_wp2
        go_ret
        rw [HE.out]
        exact ⟨rfl, HO.out, below_drewN (Below.refl _ _) _⟩

end Go.Proofs.Ytinmagodckkedab.Z

/-
  Lists of keys that rise: one for each set of keys.
-/
namespace Go.Proofs.Ytinmagodckkedab.Z
open Go.Lib Go.Sort

/-- x stands ahead of y. -/
def ahead (x y : ByteArray × ByteArray) : Prop := cmpK x y < 0

theorem ahead_iff (x y : ByteArray × ByteArray) : ltOf cmpK x y = true ↔ ahead x y := by
  unfold ltOf ahead; rw [decide_eq_true_iff]
theorem ahead_irrefl (x : ByteArray × ByteArray) : ¬ ahead x x := by
  unfold ahead cmpK; rw [cmpI_eq, (cmpL_zero _ _ _ _).2 ⟨rfl, rfl⟩]; omega
theorem ahead_trans {x y z : ByteArray × ByteArray} (h1 : ahead x y) (h2 : ahead y z) : ahead x z := cmpL_lt_trans _ _ _ _ _ _ h1 h2
theorem ahead_total (x y : ByteArray × ByteArray) : ahead x y ∨ x = y ∨ ahead y x := by
  have hn : cmpK y x = - cmpK x y := cmpL_neg _ _ _ _
  have hr : cmpK x y = -1 ∨ cmpK x y = 0 ∨ cmpK x y = 1 := cmpL_range _ _ _ _
  rcases hr with h | h | h
  · left; unfold ahead; omega
  · right; left
    obtain ⟨h1, h2⟩ := (cmpL_zero _ _ _ _).1 h
    obtain ⟨⟨⟨a⟩⟩, ⟨⟨b⟩⟩⟩ := x
    obtain ⟨⟨⟨c⟩⟩, ⟨⟨d⟩⟩⟩ := y
    simp at h1 h2
    rw [h1, h2]
  · right; right; unfold ahead; omega

def Rises (r : List (ByteArray × ByteArray)) : Prop := r.Pairwise ahead

theorem rises_uniq {r s : List (ByteArray × ByteArray)} (hr : Rises r) (hs : Rises s) (h : ∀ x, x ∈ r ↔ x ∈ s) : r = s := by
  induction r generalizing s with
  | nil =>
    cases s with
    | nil => rfl
    | cons y s => exact absurd ((h y).2 (List.mem_cons_self ..)) (by simp)
  | cons x r ih =>
    cases s with
    | nil => exact absurd ((h x).1 (List.mem_cons_self ..)) (by simp)
    | cons y s =>
      obtain ⟨hx, hr'⟩ := List.pairwise_cons.1 hr
      obtain ⟨hy, hs'⟩ := List.pairwise_cons.1 hs
      have hxy : x = y := by
        rcases List.mem_cons.1 ((h x).1 (List.mem_cons_self ..)) with e | e
        · exact e
        · rcases List.mem_cons.1 ((h y).2 (List.mem_cons_self ..)) with e' | e'
          · exact e'.symm
          · exact absurd (ahead_trans (hx y e') (hy x e)) (ahead_irrefl x)
      subst hxy
      rw [ih hr' hs' fun z => ?_]
      constructor
      · intro hz
        rcases List.mem_cons.1 ((h z).1 (List.mem_cons_of_mem _ hz)) with e | e
        · exact absurd (hx z hz) (by rw [e]; exact ahead_irrefl _)
        · exact e
      · intro hz
        rcases List.mem_cons.1 ((h z).2 (List.mem_cons_of_mem _ hz)) with e | e
        · exact absurd (hy z hz) (by rw [e]; exact ahead_irrefl _)
        · exact e

theorem compact_rises (d : Array (ByteArray × ByteArray)) (n : Nat) (hs : SortedIn (ltOf cmpK) 0 n d) : ∀ m, m ≤ n →
    Rises (compactUpTo d m) ∧ (∀ x, x ∈ compactUpTo d m → ∃ j, j < m ∧ x = d[j]!) ∧ (∀ j, j < m → d[j]! ∈ compactUpTo d m) := by
  intro m
  induction m with
  | zero => intro _; exact ⟨List.Pairwise.nil, fun x hx => by simp [compactUpTo] at hx, fun j hj => by omega⟩
  | succ m ih =>
    intro hm
    obtain ⟨h1, h2, h3⟩ := ih (by omega)
    rw [compactUpTo_succ]
    have notlt : ∀ i, i < m → ahead d[i]! d[m]! ∨ d[i]! = d[m]! := by
      intro i hi
      have := hs i m (Nat.zero_le _) hi (by omega)
      rcases ahead_total d[i]! d[m]! with h | h | h
      · exact .inl h
      · exact .inr h
      · rw [(ahead_iff _ _).2 h] at this; cases this
    by_cases hk : keeps d m = true
    · rw [if_pos hk]
      refine ⟨?_, ?_, ?_⟩
      · refine List.pairwise_append.2 ⟨h1, List.pairwise_singleton _ _, fun x hx y hy => ?_⟩
        rw [List.mem_singleton] at hy
        subst hy
        obtain ⟨j, hj, rfl⟩ := h2 x hx
        have hne : d[m]! ≠ d[m - 1]! := by
          have : m = 0 ∨ d[m]! ≠ d[m - 1]! := by simpa [keeps] using hk
          rcases this with h | h
          · omega
          · exact h
        have hlast : ahead d[m - 1]! d[m]! := by
          rcases notlt (m - 1) (by omega) with h | h
          · exact h
          · exact absurd h.symm hne
        by_cases hjm : j = m - 1
        · rw [hjm]; exact hlast
        · have := hs j (m - 1) (Nat.zero_le _) (by omega) (by omega)
          rcases ahead_total d[j]! d[m - 1]! with h | h | h
          · exact ahead_trans h hlast
          · rw [h]; exact hlast
          · rw [(ahead_iff _ _).2 h] at this; cases this
      · intro x hx
        rcases List.mem_append.1 hx with h | h
        · obtain ⟨j, hj, e⟩ := h2 x h
          exact ⟨j, by omega, e⟩
        · exact ⟨m, by omega, List.mem_singleton.1 h⟩
      · intro j hj
        by_cases hjm : j = m
        · subst hjm; exact List.mem_append_right _ (List.mem_singleton.2 rfl)
        · exact List.mem_append_left _ (h3 j (by omega))
    · have hk' : keeps d m = false := by simpa using hk
      rw [if_neg hk, List.append_nil]
      refine ⟨h1, fun x hx => ?_, fun j hj => ?_⟩
      · obtain ⟨j, hj, e⟩ := h2 x hx
        exact ⟨j, by omega, e⟩
      · by_cases hjm : j = m
        · subst hjm
          have : j ≠ 0 ∧ d[j]! = d[j - 1]! := by simpa [keeps] using hk'
          rw [this.2]
          exact h3 (j - 1) (by have := this.1; omega)
        · exact h3 j (by omega)

/-- What sorting and compacting makes of a list: it rises, and holds the same keys. -/
theorem sorted_compact (l : List (ByteArray × ByteArray)) (d : Array (ByteArray × ByteArray)) (hp : PermIn 0 l.length l.toArray d) (hs : SortedIn (ltOf cmpK) 0 l.length d) :
    Rises (compact d.toList) ∧ (∀ x, x ∈ compact d.toList ↔ x ∈ l) ∧ d.size = l.length := by
  obtain ⟨h1, _, h3⟩ := hp
  have hsz : d.size = l.length := by simpa using h1
  have hperm : d.toList.Perm l := by
    have e1 : (d.extract 0 l.length).toList = d.toList := by rw [← hsz]; simp
    have e2 : (l.toArray.extract 0 l.length).toList = l := by simp
    rw [e1, e2] at h3
    exact h3
  have hd : d.toList.toArray = d := by simp
  obtain ⟨r1, r2, r3⟩ := compact_rises d l.length hs l.length (Nat.le_refl _)
  have e : compact d.toList = compactUpTo d l.length := by
    unfold compact
    rw [hd, Array.length_toList, hsz]
  rw [e]
  refine ⟨r1, fun x => ?_, hsz⟩
  rw [← hperm.mem_iff]
  constructor
  · intro hx
    obtain ⟨j, hj, rfl⟩ := r2 x hx
    rw [getElem!_pos d j (by omega)]
    exact Array.getElem_mem_toList ..
  · intro hx
    obtain ⟨j, hj, rfl⟩ := List.mem_iff_getElem.1 hx
    have hj' : j < d.size := by simpa using hj
    have := r3 j (by omega)
    rw [getElem!_pos d j hj'] at this
    simpa using this

end Go.Proofs.Ytinmagodckkedab.Z

/-
  The contract of Sort of package name, whatever the number of keys.
-/
namespace Go.Proofs.Ytinmagodckkedab.Z
open Go.RowKit Go.Sort Go.Lib

theorem size_putCells (enc : Value → Value) (off : Nat) (d c : Array Value) : (putCells enc off d c).size = c.size := by
  unfold putCells; simp

theorem zown_sorted {w1 : World} {base g cap n : Nat} {cur : Array Value} {os : Array Obj} (d d' : Array (ByteArray × ByteArray)) (hb : base ≤ g) (hg : g < w1.heap.size) (hheap : w1.heap[g]? = some (.cells cur 33 (0, 0)))
    (hcap : d.size ≤ cap) (hm : cap ≤ maxLen) (hsz : cur.size = cap * 2) (hH : HoldsK encKey 2 w1 g 0 d) (hd : d'.size = d.size) :
    Own (sortWorldK encKey 2 w1 g 0 n d' os) base (.slice (some ⟨g, 0, none⟩) d'.size cap) d'.toList := by
  have hH2 : HoldsK encKey 2 (sortWorldK encKey 2 w1 g 0 n d' os) g 0 d' :=
    holdsK_grow encKey 2 _ os g 0 _ (by simpa [putRowK] using hg) (holdsK_putRowK encKey 2 (Sort.ahead w1 n) g 0 _ _ (holdsK_ahead encKey 2 w1 n g 0 _ hH) hd)
  have hh : (sortWorldK encKey 2 w1 g 0 n d' os).heap[g]? = some (.cells (putCells id 0 (flatK encKey 2 d') cur) 33 (0, 0)) := by
    simp only [sortWorldK, grow, putRowK, putRow, mapBlock, Sort.ahead]
    rw [Array.getElem?_append_left (by simpa using hg), Array.getElem?_modify, if_pos rfl, hheap]
    rfl
  refine ⟨cellsL_length _, .inr ⟨g, cap, _, by simp, hb, hh, by simp; omega, hm, by rw [size_putCells, hsz], ?_⟩⟩
  apply List.ext_getElem?
  intro j
  by_cases hj : j < d'.size * 2
  · rw [List.getElem?_take_of_lt (by simpa using hj)]
    have h1 := (hH2 j (by simpa using hj)).1
    simp only [World.cell?, hh, Nat.zero_add] at h1
    rw [get_flatK _ _ _ _ hj] at h1
    have h2 := flat_get d'.toList j (by simpa using hj)
    have he : d'.toList[j / 2]! = d'[j / 2]! := by
      rw [getElem!_pos d' (j / 2) (by omega), getElem!_pos d'.toList (j / 2) (by simp; omega)]; simp
    rw [he] at h2
    have h3 : (putCells id 0 (flatK encKey 2 d') cur)[j]? = some (encKey d'[j / 2]!)[j % 2]! := h1
    rw [Array.getElem?_toList, h3]
    exact h2.symm
  · rw [List.getElem?_eq_none (by rw [List.length_take]; simp; omega), List.getElem?_eq_none (by rw [cellsL_length]; simp; omega)]

set_option maxHeartbeats 800000 in
theorem zsort_any (b off c : Nat) (d : List (ByteArray × ByteArray)) (w : World) (hk : KeysAt w b off d) (hbytes : d.length * 32 ≤ 140737488355328) :
    Calls Try.prog 18 #[.slice (some ⟨b, off, none⟩) d.length c] w fun e w' =>
      ∃ v r, e = .returned v ∧ Rises r ∧ (∀ x, x ∈ r ↔ x ∈ d) ∧ r.length ≤ d.length ∧ Own w' w.heap.size v r ∧ v ≠ .slice none 0 0 ∧ Below w.heap.size w w' := by
  have hnews : ∀ j u, (cellsL d)[j]? = some u → w.cell? ⟨b, off + j, none⟩ = some u := by
    intro j u hu
    have hj : j < d.length * 2 := by
      rw [← cellsL_length]
      rcases Nat.lt_or_ge j (cellsL d).length with h | h
      · exact h
      · rw [List.getElem?_eq_none h] at hu; cases hu
    obtain ⟨h1, h2⟩ := hk (j / 2) (by omega)
    obtain ⟨e1, e2⟩ := cellsL_get d (j / 2) (by omega)
    rcases Nat.mod_two_eq_zero_or_one j with hm | hm
    · have ej : j / 2 * 2 = j := by omega
      rw [ej] at h1 e1
      rw [e1] at hu
      rw [h1, ← hu]
    · have ej : j / 2 * 2 + 1 = j := by omega
      rw [Nat.add_assoc, ej] at h2
      rw [ej] at e2
      rw [e2] at hu
      rw [h2, ← hu]
  have hcl := zclone_any b off d.length c (cellsL d) w (cellsL_length d) (by unfold maxLen; omega) hbytes hnews (cellsL_one d)
  have H := hid hcl
  clear hnews hk hcl
  go_enter Try.func18, Try.ntmps18
  go_wp2_with fail
  refine H.out.mono ?_
  rintro e w1 ⟨v', rfl, ⟨hl, hor⟩, hne, hq1⟩
  rcases hor with ⟨h1, h2⟩ | ⟨g1, cap, cur, rfl, hbase, hheap, hcap, hcapm, hsz, htake⟩
  · exact absurd h1 hne
  have hg1 : g1 < w1.heap.size := by
    rcases Nat.lt_or_ge g1 w1.heap.size with h | h
    · exact h
    · rw [Array.getElem?_eq_none h] at hheap; cases hheap
  have hH : HoldsK encKey 2 w1 g1 0 d.toArray := holds_of_heap d.toArray hheap (by simpa [cellsK, cellsL] using htake)
  have hcon := zsortfunc_any g1 0 cap d.toArray w1 hH hg1 (by simp; omega)
  rw [show d.toArray.size = d.length by simp] at hcon
  have HC := hid hcon
  have HH := hid (And.intro hH (And.intro hheap hsz))
  clear hcon hH hl hne hheap htake hsz
  go_wp2_with fail
  refine HC.out.mono ?_
  rintro e w2 ⟨rfl, d', n, os, hperm, hsorted, hw2⟩
  obtain ⟨hr, hmem, hds⟩ := sorted_compact d d' hperm hsorted
  have ho2 : Own w2 w.heap.size (.slice (some ⟨g1, 0, none⟩) d'.size cap) d'.toList := by
    rw [hw2]
    exact zown_sorted d.toArray d' hbase hg1 HH.out.2.1 (by simpa using hcap) hcapm HH.out.2.2 HH.out.1 (by simpa using hds)
  have hq2 : Below w.heap.size w w2 := by
    rw [hw2]; exact below_sortWorld hq1 hq1.size g1 0 n _ os hbase
  have hcomp := zcompact_own g1 cap w.heap.size d'.toList w2 (by rw [Array.length_toList]; exact ho2) (by rw [Array.length_toList]; omega) hcapm
  rw [Array.length_toList, hds] at hcomp
  have HCC := hid hcomp
  have HR := hid (And.intro hr hmem)
  have hlen : (compact d'.toList).length ≤ d.length := by
    have h5 : (compact d'.toList).length ≤ d'.size := by
      unfold compact compactUpTo
      rw [List.length_map]
      exact Nat.le_trans (List.length_filter_le _ _) (by simp)
    exact Nat.le_trans h5 (Nat.le_of_eq hds)
  have HLEN := hid hlen
  clear hw2 hperm hsorted hcomp hr hmem ho2 hlen hds
  go_wp2_with fail
  refine HCC.out.mono ?_
  rintro e w3 ⟨rfl, ho3, hq3⟩
  go_wp2_with fail
  go_ret
  exact ⟨_, _, rfl, HR.out.1, HR.out.2, HLEN.out, ho3, by simp, hq2.trans (hq3.mono hbase)⟩

end Go.Proofs.Ytinmagodckkedab.Z

/-
  The contract of the reference's Less.
-/
namespace Go.Proofs.Ytinmagodckkedab.Z
open Go.RowKit

theorem less_eq (a b c d : ByteArray) : (Op.bytesLess a.toList c.toList || (a.toList == c.toList && Op.bytesLess b.toList d.toList)) = decide (cmpI a b c d < 0) := by
  rw [Lib.toList_data, Lib.toList_data, Lib.toList_data, Lib.toList_data]
  exact (cmpL_less _ _ _ _).symm

set_option maxHeartbeats 400000 in
theorem zless_any (a b c d : ByteArray) (w : World) :
    Calls Try.prog 21 #[.agg #[.string a, .string b], .agg #[.string c, .string d]] w fun e w' => e = .returned (.bool (decide (cmpI a b c d < 0))) ∧ Below w.heap.size w w' := by
  have HE : Hid ((Op.bytesLess a.toList c.toList || (a.toList == c.toList && Op.bytesLess b.toList d.toList)) = decide (cmpI a b c d < 0)) := less_eq a b c d
  have hb : Below w.heap.size w ((w.alloc (.cells #[.string a, .string b] 33)).alloc (.cells #[.string c, .string d] 33)) := ((Below.refl _ _).alloc (Nat.le_refl _) _).alloc (by simp) _
  have HB := hid hb
  clear hb
  cases h1 : Op.bytesLess a.toList c.toList
  · cases h2 : (a.toList == c.toList)
    · go_enter Try.func21, Try.ntmps21
      go_wp2
      go_ret
      exact ⟨ret_bool (by rw [← HE.out, h1, h2]; rfl), HB.out⟩
    · go_enter Try.func21, Try.ntmps21
      go_wp2
      go_ret
      exact ⟨ret_bool (by rw [← HE.out, h1, h2]; rfl), HB.out⟩
  · go_enter Try.func21, Try.ntmps21
    go_wp2
    go_ret
    exact ⟨ret_bool (by rw [← HE.out, h1]; rfl), HB.out⟩

end Go.Proofs.Ytinmagodckkedab.Z

/-
  A key more in a rising list, in plain lists; and a row of keys under small changes.
-/
namespace Go.Proofs.Ytinmagodckkedab.Z
open Go.RowKit

theorem rises_lt {d : List (ByteArray × ByteArray)} (h : Rises d) (i j : Nat) (hij : i < j) (hj : j < d.length) : ahead (d[i]'(by omega)) d[j] :=
  List.pairwise_iff_getElem.1 h i j (by omega) hj hij

theorem insert_rises (d : List (ByteArray × ByteArray)) (x : ByteArray × ByteArray) (p : Nat) (hp : p ≤ d.length) (hd : Rises d)
    (hlo : ∀ j, (hj : j < d.length) → j < p → ahead d[j] x) (hhi : ∀ j, (hj : j < d.length) → p ≤ j → ahead x d[j]) :
    Rises (d.take p ++ x :: d.drop p) ∧ ∀ y, y ∈ d.take p ++ x :: d.drop p ↔ y = x ∨ y ∈ d := by
  refine ⟨?_, fun y => ?_⟩
  · refine List.pairwise_append.2 ⟨hd.sublist (List.take_sublist _ _), List.pairwise_cons.2 ⟨fun y hy => ?_, hd.sublist (List.drop_sublist _ _)⟩, fun a ha b hb => ?_⟩
    · obtain ⟨j, hj, rfl⟩ := List.mem_iff_getElem.1 hy
      rw [List.getElem_drop]
      exact hhi _ _ (by omega)
    · obtain ⟨i, hi, rfl⟩ := List.mem_iff_getElem.1 ha
      rw [List.length_take] at hi
      rw [List.getElem_take]
      have hax := hlo i (by omega) (by omega)
      rcases List.mem_cons.1 hb with rfl | hb
      · exact hax
      · obtain ⟨j, hj, rfl⟩ := List.mem_iff_getElem.1 hb
        rw [List.getElem_drop]
        exact ahead_trans hax (hhi _ (by simp at hj; omega) (by omega))
  · have := List.take_append_drop p d
    constructor
    · intro h
      rcases List.mem_append.1 h with h | h
      · exact .inr (List.mem_of_mem_take h)
      · rcases List.mem_cons.1 h with h | h
        · exact .inl h
        · exact .inr (List.mem_of_mem_drop h)
    · rintro (rfl | h)
      · exact List.mem_append_right _ (List.mem_cons_self ..)
      · rw [← this] at h
        rcases List.mem_append.1 h with h | h
        · exact List.mem_append_left _ h
        · exact List.mem_append_right _ (List.mem_cons_of_mem _ h)

theorem zown_storeL {w : World} {base g n cap : Nat} {d : List (ByteArray × ByteArray)} (h : Own w base (.slice (some ⟨g, 0, none⟩) n cap) d) (i : Nat) (hi : i < d.length) (a b : ByteArray) :
    Own ((w.setCell ⟨g, i * 2, none⟩ (.string a)).setCell ⟨g, i * 2 + 1, none⟩ (.string b)) base (.slice (some ⟨g, 0, none⟩) n cap) (d.set i (a, b)) := by
  obtain ⟨rfl, _⟩ := h.keysAt
  have h1 := (World.ownsRow.stored h (i * 2) (.string a)).1
  have h2 := (World.ownsRow.stored h1 (i * 2 + 1) (.string b)).1
  rw [cellsL_set _ _ _ _ hi] at h2
  unfold Own
  rw [List.length_set]
  exact h2

theorem zown_atL {w : World} {base g n cap : Nat} {d : List (ByteArray × ByteArray)} (h : Own w base (.slice (some ⟨g, 0, none⟩) n cap) d) (i : Nat) (hi : i < d.length) :
    w.cell? ⟨g, i * 2, none⟩ = some (.string d[i].1) ∧ w.cell? ⟨g, i * 2 + 1, none⟩ = some (.string d[i].2) ∧ w.frozen? ⟨g, i * 2, none⟩ = false ∧ w.frozen? ⟨g, i * 2 + 1, none⟩ = false := by
  have := h.keysAt.2 i hi
  rw [Nat.zero_add] at this
  exact ⟨this.1, this.2, zown_frozen h _, zown_frozen h _⟩

theorem Own.on {W w' : World} {base : Nat} {v : Value} {d : List (ByteArray × ByteArray)} (h : Own W base v d) (hq : Below W.heap.size W w') : Own w' base v d := by
  obtain ⟨hl, h' | ⟨g, cap, cur, h', hb, hg, hnc, hcm, hcs, ht⟩⟩ := h
  · exact ⟨hl, .inl h'⟩
  · have lt : g < W.heap.size := (Array.getElem?_eq_some_iff.1 hg).1
    exact ⟨hl, .inr ⟨g, cap, cur, h', hb, by rw [hq.block g lt]; exact hg, hnc, hcm, hcs, ht⟩⟩

theorem ahead_cmp (x y : ByteArray × ByteArray) : decide (cmpI x.1 x.2 y.1 y.2 < 0) = true ↔ ahead x y := by
  rw [decide_eq_true_iff]; rfl

end Go.Proofs.Ytinmagodckkedab.Z

/-
  The contract of the reference's Put.
-/
namespace Go.Proofs.Ytinmagodckkedab.Z
open Go.RowKit

theorem new_cell (w : World) (cs : Array Value) (t : TypeId) (k : Nat) (v : Value) (h : cs[k]? = some v) : (w.alloc (.cells cs t)).cell? ⟨w.heap.size, k, none⟩ = some v := by
  simp only [World.cell?]; rw [heap_alloc_new]; exact h

/-- The worlds that Put goes through: its list and its key lie as they did. -/
def PutW (w : World) (base g n cap : Nat) (d : List (ByteArray × ByteArray)) (x : ByteArray × ByteArray) (wr : World) : Prop :=
  Own wr base (.slice (some ⟨g, 0, none⟩) n cap) d ∧ Below base w wr ∧ wr.cell? ⟨w.heap.size, 0, none⟩ = some (.string x.1) ∧ wr.cell? ⟨w.heap.size, 1, none⟩ = some (.string x.2)

theorem PutW.on {w : World} {base g n cap : Nat} {d : List (ByteArray × ByteArray)} {x : ByteArray × ByteArray} {W w' : World} (h : PutW w base g n cap d x W) (hb : base ≤ w.heap.size) (hq : Below W.heap.size W w') : PutW w base g n cap d x w' := by
  obtain ⟨h1, h2, h3, h4⟩ := h
  have hs := h2.size
  refine ⟨h1.on hq, h2.trans (hq.mono (by omega)), ?_, ?_⟩
  · have lt : w.heap.size < W.heap.size := by
      rcases Nat.lt_or_ge w.heap.size W.heap.size with h' | h'
      · exact h'
      · simp [World.cell?, Array.getElem?_eq_none h'] at h3
    rw [(bcell hq).1 _ _ lt]; exact h3
  · have lt : w.heap.size < W.heap.size := by
      rcases Nat.lt_or_ge w.heap.size W.heap.size with h' | h'
      · exact h'
      · simp [World.cell?, Array.getElem?_eq_none h'] at h3
    rw [(bcell hq).1 _ _ lt]; exact h4
theorem PutW.drew {w : World} {base g n cap : Nat} {d : List (ByteArray × ByteArray)} {x : ByteArray × ByteArray} {W : World} (h : PutW w base g n cap d x W) : PutW w base g n cap d x W.drew :=
  ⟨h.1, h.2.1.drew, h.2.2⟩

theorem PutW.full {w : World} {base g n cap : Nat} {d : List (ByteArray × ByteArray)} {x1 x2 : ByteArray} {W : World} (h : PutW w base g n cap d (x1, x2) W) (m : Nat) (hm : m < d.length) (y1 y2 : ByteArray) (hy : d[m] = (y1, y2)) :
    PutW w base g n cap d (x1, x2) W ∧ W.cell? ⟨g, m * 2, none⟩ = some (.string y1) ∧ W.cell? ⟨g, m * 2 + 1, none⟩ = some (.string y2) ∧ W.cell? ⟨w.heap.size, 0, none⟩ = some (.string x1) ∧ W.cell? ⟨w.heap.size, 1, none⟩ = some (.string x2) := by
  obtain ⟨a1, a2, _, _⟩ := zown_atL h.1 m hm
  rw [hy] at a1 a2
  exact ⟨h, a1, a2, h.2.2.1, h.2.2.2⟩

theorem less_put (w : World) (base g n cap : Nat) (d : List (ByteArray × ByteArray)) (x y1 y2 z1 z2 : ByteArray) (x' : ByteArray) (hb : base ≤ w.heap.size) (W : World) (h : PutW w base g n cap d (x, x') W) :
    Calls Try.prog 21 #[.agg #[.string y1, .string y2], .agg #[.string z1, .string z2]] W fun e w' => e = .returned (.bool (decide (cmpI y1 y2 z1 z2 < 0))) ∧ PutW w base g n cap d (x, x') w' :=
  (zless_any y1 y2 z1 z2 W).mono fun _ _ ⟨h1, h2⟩ => ⟨h1, h.on hb h2⟩

theorem Try.infoKey : (Try.prog.info? 33).map (fun i => (i.zero, i.size, i.bytes)) = some (some (.agg #[.string ⟨#[]⟩, .string ⟨#[]⟩]), 2, 32) := by kernel_rfl

theorem two_new (W : World) (N : Nat) (hN : N = W.heap.size) (a b : Value) : ∀ j u, [a, b][j]? = some u → (W.alloc (.cells #[a, b] 33)).cell? ((⟨N, 0, none⟩ : Addr).add j) = some u := by
  intro j u hu
  have hadd : (⟨N, 0, none⟩ : Addr).add j = ⟨N, j, none⟩ := by
    unfold Addr.add
    split
    · rename_i h; simp_all
    · simp
  rw [hadd, hN]
  exact new_cell W #[a, b] 33 j u (by simpa using hu)

theorem kept_n {w : World} {b o : Nat} {v : Value} {n : Nat} {ob : Obj} (h : w.cell? ⟨b, o, none⟩ = some v) (hlt : b < w.heap.size) : ((w.drewN n).alloc ob).cell? ⟨b, o, none⟩ = some v := by
  rw [← h]
  simp only [World.cell?, World.alloc, Array.getElem?_push]
  rw [if_neg (show ¬ b = (w.drewN n).heap.size from Nat.ne_of_lt hlt)]
  rfl

/-- The worlds of Put's second half: the longer list, and the key. -/
def PutV (w : World) (base g n cap : Nat) (dk : List (ByteArray × ByteArray)) (x : ByteArray × ByteArray) (wr : World) : Prop :=
  PutW w base g n cap dk x wr ∧ g ≠ w.heap.size

theorem PutV.store {w : World} {base g n cap : Nat} {dk : List (ByteArray × ByteArray)} {x : ByteArray × ByteArray} {wr : World} (h : PutV w base g n cap dk x wr) (hb : base ≤ g) (i : Nat) (hi : i < dk.length) (a b : ByteArray) :
    PutV w base g n cap (dk.set i (a, b)) x ((wr.setCell ⟨g, i * 2, none⟩ (.string a)).setCell ⟨g, i * 2 + 1, none⟩ (.string b)) := by
  obtain ⟨⟨h1, h2, h3, h4⟩, h5⟩ := h
  refine ⟨⟨zown_storeL h1 i hi a b, (h2.setCell hb _).setCell hb _, ?_, ?_⟩, h5⟩
  · rw [World.cell?_setCell_far _ _ _ _ h5, World.cell?_setCell_far _ _ _ _ h5]; exact h3
  · rw [World.cell?_setCell_far _ _ _ _ h5, World.cell?_setCell_far _ _ _ _ h5]; exact h4

/-- The new list, when the places behind p have moved up and x has come to p. -/
theorem put_list (d dk : List (ByteArray × ByteArray)) (x : ByteArray × ByteArray) (p : Nat) (hp : p ≤ d.length) (hl : dk.length = d.length + 1) (h1 : ∀ j, j < p → dk[j]? = d[j]?) (h2 : ∀ j, p < j → dk[j]? = d[j - 1]?) :
    dk.set p x = d.take p ++ x :: d.drop p := by
  apply List.ext_getElem?
  intro j
  rcases Nat.lt_trichotomy j p with h | h | h
  · rw [List.getElem?_set_ne (by omega), h1 j h, List.getElem?_append_left (by rw [List.length_take]; omega), List.getElem?_take_of_lt h]
  · subst h
    rw [List.getElem?_set_self (by omega), List.getElem?_append_right (by rw [List.length_take]; omega), List.length_take, Nat.min_eq_left hp, Nat.sub_self]
    rfl
  · rw [List.getElem?_set_ne (by omega), h2 j h, List.getElem?_append_right (by rw [List.length_take]; omega), List.length_take, Nat.min_eq_left hp]
    obtain ⟨u, rfl⟩ : ∃ u, j = p + u + 1 := ⟨j - p - 1, by omega⟩
    rw [show p + u + 1 - p = u + 1 by omega, List.getElem?_cons_succ, List.getElem?_drop, show p + u + 1 - 1 = p + u by omega]

/-- What Put leaves: a rising list with the key in it, in memory of its own. -/
def PutPost (base : Nat) (d : List (ByteArray × ByteArray)) (x : ByteArray × ByteArray) (w : World) (e : Ending) (w' : World) : Prop :=
  ∃ v r, e = .returned v ∧ Rises r ∧ (∀ y, y ∈ r ↔ y = x ∨ y ∈ d) ∧ r.length ≤ d.length + 1 ∧ Own w' base v r ∧ Below base w w'

attribute [local go_sem ↓] Go.wp_at_zero Go.wp_at_succ

set_option maxHeartbeats 2000000 in
theorem zput_own (g cap base : Nat) (d : List (ByteArray × ByteArray)) (x1 x2 : ByteArray) (w : World) (hown : Own w base (.slice (some ⟨g, 0, none⟩) d.length cap) d)
    (hbase : base ≤ w.heap.size) (hr : Rises d) (hbytes : (d.length + 1) * 32 ≤ 140737488355328) :
    Calls Try.prog 8 #[.slice (some ⟨g, 0, none⟩) d.length cap, .agg #[.string x1, .string x2]] w (PutPost base d (x1, x2) w) := by
  have hp0 : PutW w base g d.length cap d (x1, x2) (w.alloc (.cells #[.string x1, .string x2] 33)) :=
    ⟨World.ownsRow.alloc hown _, (Below.refl _ _).alloc hbase _, by simp [go_sem], by simp [go_sem]⟩
  have hgl := World.ownsRow.lt hown g rfl
  have HP0 := hid hp0
  have HR := hid hr
  clear hp0 hr hown
  go_enter Try.func8, Try.ntmps8
  go_wp2
  go_loopg [5, 6] d.length (fun gh s5 s6 wr => ∃ lo hi : Nat, s5 = .int .i64 lo ∧ s6 = .int .i64 hi ∧ lo ≤ hi ∧ hi ≤ d.length ∧ hi - lo ≤ gh ∧ PutW w base g d.length cap d (x1, x2) wr ∧
    (∀ j, (hj : j < d.length) → j < lo → ahead d[j] (x1, x2)) ∧ (∀ j, (hj : j < d.length) → hi ≤ j → ¬ ahead d[j] (x1, x2)))
  case atStart => exact ⟨0, d.length, rfl, rfl, by omega, by omega, by omega, HP0.out, fun j _ h => by omega, fun j _ h => by omega⟩
  case round =>
    obtain ⟨lo, hi, rfl, rfl, hlh, hhn, hgh, hpw, hlo, hhi⟩ := hrel
    have HPW := hid hpw
    have HLO := hid hlo
    have HHI := hid hhi
    clear hlo hhi
    by_cases hlt : lo < hi
    · obtain ⟨m, hm⟩ : ∃ m, m = (lo + hi) / 2 := ⟨_, rfl⟩
      have hm1 : lo ≤ m := by omega
      have hm2 : m < hi := by omega
      have hmz : ((lo : Int) + (hi : Int)) / 2 = (m : Int) := by omega
      have HM := hid hm
      clear hm
      have hmd : m < d.length := by omega
      obtain ⟨⟨y1, y2⟩, hy⟩ : ∃ y, d[m] = y := ⟨_, rfl⟩
      have HY := hid hy
      have hful := PutW.full hpw m hmd y1 y2 hy
      clear hpw hy
      obtain ⟨_, a1, a2, b1, b2⟩ := id hful
      have im1 : (0 : Int) ≤ ↑m := by omega
      have im2 : (↑m : Int) < ↑d.length := by omega
      go_wp2_with fail
      go_region_held3 (fun w' => PutW w base g d.length cap d (x1, x2) w' ∧ w'.cell? ⟨g, m * 2, none⟩ = some (.string y1) ∧ w'.cell? ⟨g, m * 2 + 1, none⟩ = some (.string y2) ∧ w'.cell? ⟨w.heap.size, 0, none⟩ = some (.string x1) ∧ w'.cell? ⟨w.heap.size, 1, none⟩ = some (.string x2))
        (first | exact PutW.full HPW.out.drew m hmd y1 y2 HY.out | exact PutW.full hpw2 m hmd y1 y2 HY.out)
        ((go_at_call 21; refine (less_put w base g d.length cap d x1 y1 y2 x1 x2 x2 hbase _ HPW.out.drew).mono ?_; rintro o w2 ⟨rfl, hpw2⟩))
      have hpw3 : PutW w base g d.length cap d (x1, x2) w2 := hpw2
      clear a1 a2 b1 b2
      cases hc : decide (cmpI y1 y2 x1 x2 < 0) with
      | true =>
        have HC := hid hc
        go_wp2_with fail
        go_roundg (hi - (m + 1))
        case measure => omega
        case rel =>
          refine ⟨m + 1, hi, by go_num, rfl, by omega, by omega, Nat.le_refl _, hpw3, fun j hj h => ?_, HHI.out⟩
          have hax : ahead d[m] (x1, x2) := by rw [HY.out]; exact (ahead_cmp (y1, y2) (x1, x2)).1 HC.out
          by_cases hjm : j = m
          · subst hjm; exact hax
          · exact ahead_trans (rises_lt HR.out j m (by omega) hmd) hax
      | false =>
        have HC := hid hc
        go_wp2_with fail
        go_roundg (m - lo)
        case measure => omega
        case rel =>
          refine ⟨lo, m, rfl, rfl, by omega, by omega, Nat.le_refl _, hpw3, HLO.out, fun j hj h => ?_⟩
          have hax : ¬ ahead d[m] (x1, x2) := by
            rw [HY.out]
            intro h'
            have := (ahead_cmp (y1, y2) (x1, x2)).2 h'
            rw [HC.out] at this
            cases this
          by_cases hjm : j = m
          · subst hjm; exact hax
          · exact fun h' => hax (ahead_trans (rises_lt HR.out m j (by omega) hj) h')
    · have hle : hi = lo := by omega
      subst hle
      obtain ⟨ho, hbl, b1, b2⟩ := id hpw
      by_cases hin : hi < d.length
      · obtain ⟨⟨y1, y2⟩, hy⟩ : ∃ y, d[hi] = y := ⟨_, rfl⟩
        have HY := hid hy
        have hful := PutW.full hpw hi hin y1 y2 hy
        clear hy hpw
        obtain ⟨_, a1, a2, _, _⟩ := id hful
        have im1 : (0 : Int) ≤ ↑hi := by omega
        have im2 : (↑hi : Int) < ↑d.length := by omega
        have heq := fun W => eql_key y1 y2 x1 x2 W
        rw [eqK_iff (y1, y2) (x1, x2)] at heq
        by_cases hxy : (y1, y2) = (x1, x2)
        · have HX := hid hxy
          have hd : decide ((y1, y2) = (x1, x2)) = true := by simp [hxy]
          rw [hd] at heq
          clear hxy hd
          go_wp2_with fail
          go_quiet (fail)
          go_wp2_with fail
          go_ret
          refine ⟨_, d, rfl, HR.out, fun z => ⟨fun h => .inr h, ?_⟩, by omega, HPW.out.1, below_drewN HPW.out.2.1 _⟩
          rintro (rfl | h)
          · rw [← HX.out, ← HY.out]; exact List.getElem_mem _
          · exact h
        · have HX := hid hxy
          have hd : decide ((y1, y2) = (x1, x2)) = false := by simpa using hxy
          rw [hd] at heq
          clear hxy hd
          go_wp2_with fail
          go_quiet (fail)
          obtain ⟨i0, hi0, hz0, hz1, hz2⟩ := info_parts Try.infoKey
          have hsz := HPW.out.2.1.size
          go_wp2_with (at_builtin; refine wpList_append_lies _ rfl _ _ 28 rfl base 33 i0 (.agg #[.string ⟨#[]⟩, .string ⟨#[]⟩]) 2 32 Try.underlying28 hi0 hz0 hz1 hz2 rfl (by decide) _ _ _ rfl (World.ownsRow.alloc HPW.out.1 _) ⟨wr.heap.size, 0, none⟩ 1 1 [.string ⟨#[]⟩, .string ⟨#[]⟩] rfl rfl ?c1 ?c2 (by decide) ?c3 ?c4 ?c5 (wr.heap.size + 1) ?c6 ?_)
          case c1 => exact two_new _ _ rfl _ _
          case c2 => intro u hu; simp at hu; subst hu; rfl
          case c3 => unfold maxLen; omega
          case c4 => omega
          case c5 => simp; omega
          case c6 => simp
          intro g2 cap2 w1 hown1 hgrow hat hg2
          have hgN : g2 ≠ w.heap.size := by
            rcases hat with h | h
            · simp [Value.ownBlock] at h; omega
            · omega
          have hbg2 : base ≤ g2 := (World.ownsRow.lt hown1 g2 rfl).1
          have hpv : PutV w base g2 (d.length + 1) cap2 (d ++ [(⟨#[]⟩, ⟨#[]⟩)]) (x1, x2) w1 := by
            have hlt0 : w.heap.size < wr.heap.size := by
              rcases Nat.lt_or_ge w.heap.size wr.heap.size with h' | h'
              · exact h'
              · have := HPW.out.2.2.1; simp [World.cell?, Array.getElem?_eq_none h'] at this
            have hNg : some w.heap.size ≠ (Value.slice (some ⟨g, 0, none⟩) d.length cap).ownBlock := by simp [Value.ownBlock]; omega
            refine ⟨⟨?_, ?_, ?_, ?_⟩, hgN⟩
            · unfold Own; rw [cellsL_append, List.length_append]; exact hown1
            · exact ((below_drewN HPW.out.2.1 nq).alloc (by simp; omega) _).grown hgrow (by simp; omega) (by intro k hk; simp [Value.ownBlock] at hk; omega)
            · rw [hgrow.cell_far _ (by simp; omega) hNg]; exact kept_n (HPW.out.2.2.1) hlt0
            · rw [hgrow.cell_far _ (by simp; omega) hNg]; exact kept_n (HPW.out.2.2.2) hlt0
          have HPV := hid hpv
          clear hown1 hgrow hat hpv hg2 hi0 hz0 hz1 hz2 hful a1 a2
          go_wp2_with fail
          go_loopg [8] (d.length + 1) (fun gh s8 wr2 => ∃ (k : Nat) (dk : List (ByteArray × ByteArray)), s8 = .int .i64 k ∧ hi ≤ k ∧ k ≤ d.length ∧ k - hi ≤ gh ∧ PutV w base g2 (d.length + 1) cap2 dk (x1, x2) wr2 ∧ dk.length = d.length + 1 ∧ (∀ j, j < k → dk[j]? = d[j]?) ∧ (∀ j, k < j → dk[j]? = d[j - 1]?))
          case atStart =>
            refine ⟨d.length, _, by go_num, by omega, by omega, by omega, HPV.out, by simp, fun j hj => ?_, fun j hj => ?_⟩
            · rw [List.getElem?_append_left hj]
            · rw [List.getElem?_eq_none (by simp; omega), List.getElem?_eq_none (by omega)]
          case round =>
            obtain ⟨k, dk, rfl, hk1, hk2, hgh2, hv, hdl, hd1, hd2⟩ := hrel
            have HV := hid hv
            have HD := hid (And.intro hd1 hd2)
            clear hd1 hd2
            by_cases hgt : hi < k
            · obtain ⟨⟨p1, p2⟩, hp⟩ : ∃ y, dk[k - 1]'(by omega) = y := ⟨_, rfl⟩
              obtain ⟨e1, e2, _, _⟩ := zown_atL hv.1.1 (k - 1) (by omega)
              obtain ⟨f1, f2, f3, f4⟩ := zown_atL hv.1.1 k (by omega)
              rw [hp] at e1 e2
              have HP := hid hp
              clear hp hv
              generalize (dk[k]'(by omega)).1 = o1 at *
              generalize (dk[k]'(by omega)).2 = o2 at *
              have im1 : (0 : Int) ≤ ↑k - 1 := by omega
              have im2 : (↑k - 1 : Int) < ↑(d.length + 1) := by omega
              have im3 : (↑k : Int) < ↑(d.length + 1) := by omega
              go_wp2_with fail
              go_roundg (k - 1 - hi)
              case measure => omega
              case rel =>
                refine ⟨k - 1, dk.set k (p1, p2), by go_num, by omega, by omega, Nat.le_refl _, HV.out.store hbg2 k (by omega) p1 p2, by simp [hdl], fun j hj => ?_, fun j hj => ?_⟩
                · rw [List.getElem?_set_ne (by omega)]; exact HD.out.1 j (by omega)
                · by_cases hjk : j = k
                  · subst hjk
                    rw [List.getElem?_set_self (by omega), ← HD.out.1 (j - 1) (by omega), List.getElem?_eq_getElem (by omega), HP.out]
                  · rw [List.getElem?_set_ne (by omega)]; exact HD.out.2 j (by omega)
            · have hke : k = hi := by omega
              subst hke
              obtain ⟨f1, f2, f3, f4⟩ := zown_atL hv.1.1 k (by omega)
              obtain ⟨_, _, e1, e2⟩ := hv.1
              generalize (dk[k]'(by omega)).1 = o1 at *
              generalize (dk[k]'(by omega)).2 = o2 at *
              have im1 : (0 : Int) ≤ ↑k := by omega
              have im3 : (↑k : Int) < ↑(d.length + 1) := by omega
              go_wp2_with fail
              go_ret
              have hst := HV.out.store hbg2 k (by omega) x1 x2
              have hpl := put_list d dk (x1, x2) k (by omega) hdl HD.out.1 HD.out.2
              rw [hpl] at hst
              obtain ⟨hri, hmem⟩ := insert_rises d (x1, x2) k (by omega) HR.out HLO.out (fun j hj h => by
                have hx : ahead (x1, x2) d[k] := by
                  rcases ahead_total d[k] (x1, x2) with h' | h' | h'
                  · exact absurd h' (HHI.out k hin (Nat.le_refl _))
                  · rw [HY.out] at h'; exact absurd h' HX.out
                  · exact h'
                by_cases hjk : j = k
                · subst hjk; exact hx
                · exact ahead_trans hx (rises_lt HR.out k j (by omega) hj))
              exact ⟨_, _, rfl, hri, hmem, by simp; omega, hst.1.1, hst.1.2.1⟩
      · have hin' : decide ((hi : Int) < (d.length : Int)) = false := by simp; omega
        have hin2 : ¬ (hi : Int) < (d.length : Int) := by omega
        clear hpw
        go_wp2_with fail
        go_quiet (fail)
        obtain ⟨i0, hi0, hz0, hz1, hz2⟩ := info_parts Try.infoKey
        have hsz := HPW.out.2.1.size
        go_wp2_with (at_builtin; refine wpList_append_lies _ rfl _ _ 28 rfl base 33 i0 (.agg #[.string ⟨#[]⟩, .string ⟨#[]⟩]) 2 32 Try.underlying28 hi0 hz0 hz1 hz2 rfl (by decide) _ _ _ rfl (World.ownsRow.alloc HPW.out.1 _) ⟨wr.heap.size, 0, none⟩ 1 1 [.string ⟨#[]⟩, .string ⟨#[]⟩] rfl rfl ?c1 ?c2 (by decide) ?c3 ?c4 ?c5 (wr.heap.size + 1) ?c6 ?_)
        case c1 => exact two_new _ _ rfl _ _
        case c2 => intro u hu; simp at hu; subst hu; rfl
        case c3 => unfold maxLen; omega
        case c4 => omega
        case c5 => simp; omega
        case c6 => simp
        intro g2 cap2 w1 hown1 hgrow hat hg2
        have hgN : g2 ≠ w.heap.size := by
          rcases hat with h | h
          · simp [Value.ownBlock] at h; omega
          · omega
        have hbg2 : base ≤ g2 := (World.ownsRow.lt hown1 g2 rfl).1
        have hpv : PutV w base g2 (d.length + 1) cap2 (d ++ [(⟨#[]⟩, ⟨#[]⟩)]) (x1, x2) w1 := by
          have hlt0 : w.heap.size < wr.heap.size := by
            rcases Nat.lt_or_ge w.heap.size wr.heap.size with h' | h'
            · exact h'
            · have := HPW.out.2.2.1; simp [World.cell?, Array.getElem?_eq_none h'] at this
          have hNg : some w.heap.size ≠ (Value.slice (some ⟨g, 0, none⟩) d.length cap).ownBlock := by simp [Value.ownBlock]; omega
          refine ⟨⟨?_, ?_, ?_, ?_⟩, hgN⟩
          · unfold Own; rw [cellsL_append, List.length_append]; exact hown1
          · exact ((below_drewN HPW.out.2.1 nq).alloc (by simp; omega) _).grown hgrow (by simp; omega) (by intro k hk; simp [Value.ownBlock] at hk; omega)
          · rw [hgrow.cell_far _ (by simp; omega) hNg]; exact kept_n (HPW.out.2.2.1) hlt0
          · rw [hgrow.cell_far _ (by simp; omega) hNg]; exact kept_n (HPW.out.2.2.2) hlt0
        have HPV := hid hpv
        clear hown1 hgrow hat hpv hg2 hi0 hz0 hz1 hz2 
        go_wp2_with fail
        go_loopg [8] (d.length + 1) (fun gh s8 wr2 => ∃ (k : Nat) (dk : List (ByteArray × ByteArray)), s8 = .int .i64 k ∧ hi ≤ k ∧ k ≤ d.length ∧ k - hi ≤ gh ∧ PutV w base g2 (d.length + 1) cap2 dk (x1, x2) wr2 ∧ dk.length = d.length + 1 ∧ (∀ j, j < k → dk[j]? = d[j]?) ∧ (∀ j, k < j → dk[j]? = d[j - 1]?))
        case atStart =>
          refine ⟨d.length, _, by go_num, by omega, by omega, by omega, HPV.out, by simp, fun j hj => ?_, fun j hj => ?_⟩
          · rw [List.getElem?_append_left hj]
          · rw [List.getElem?_eq_none (by simp; omega), List.getElem?_eq_none (by omega)]
        case round =>
          obtain ⟨k, dk, rfl, hk1, hk2, hgh2, hv, hdl, hd1, hd2⟩ := hrel
          have HV := hid hv
          have HD := hid (And.intro hd1 hd2)
          clear hd1 hd2
          by_cases hgt : hi < k
          · exact absurd hgt (by omega)
          · have hke : k = hi := by omega
            subst hke
            obtain ⟨f1, f2, f3, f4⟩ := zown_atL hv.1.1 k (by omega)
            obtain ⟨_, _, e1, e2⟩ := hv.1
            generalize (dk[k]'(by omega)).1 = o1 at *
            generalize (dk[k]'(by omega)).2 = o2 at *
            have im1 : (0 : Int) ≤ ↑k := by omega
            have im3 : (↑k : Int) < ↑(d.length + 1) := by omega
            go_wp2_with fail
            go_ret
            have hst := HV.out.store hbg2 k (by omega) x1 x2
            have hpl := put_list d dk (x1, x2) k (by omega) hdl HD.out.1 HD.out.2
            rw [hpl] at hst
            obtain ⟨hri, hmem⟩ := insert_rises d (x1, x2) k (by omega) HR.out HLO.out (fun j hj h => absurd h (by omega))
            exact ⟨_, _, rfl, hri, hmem, by simp; omega, hst.1.1, hst.1.2.1⟩

set_option maxHeartbeats 1000000 in
theorem zput_nil (base : Nat) (x1 x2 : ByteArray) (w : World) (hbase : base ≤ w.heap.size) :
    Calls Try.prog 8 #[.slice none 0 0, .agg #[.string x1, .string x2]] w (PutPost base [] (x1, x2) w) := by
  go_enter Try.func8, Try.ntmps8
  go_wp2
  refine wp_loop_rounds 1 ?_
  rw [rounds_succ]
  go_wp2_with fail
  go_quiet (fail)
  obtain ⟨i0, hi0, hz0, hz1, hz2⟩ := info_parts Try.infoKey
  go_wp2_with (at_builtin; refine wpList_append_lies _ rfl _ _ 28 rfl base 33 i0 (.agg #[.string ⟨#[]⟩, .string ⟨#[]⟩]) 2 32 Try.underlying28 hi0 hz0 hz1 hz2 rfl (by decide) _ _ _ rfl (World.ownsRow_nil _ base 33 2) ⟨w.heap.size + 1, 0, none⟩ 1 1 [.string ⟨#[]⟩, .string ⟨#[]⟩] rfl rfl ?c1 ?c2 (by decide) ?c3 ?c4 ?c5 (w.heap.size + 2) ?c6 ?_)
  case c1 => exact two_new _ _ (by simp) _ _
  case c2 => intro u hu; simp at hu; subst hu; rfl
  case c3 => unfold maxLen; omega
  case c4 => omega
  case c5 => simp; omega
  case c6 => simp
  intro g2 cap2 w1 hown1 hgrow hat hg2
  have hg : g2 = w.heap.size + 2 := by
    rcases hat with h | h
    · simp [Value.ownBlock] at h
    · exact h
  have c0 : w1.cell? ⟨w.heap.size, 0, none⟩ = some (.string x1) := by
    rw [hgrow.cell_far _ (by simp; omega) (by simp [Value.ownBlock])]; simp [go_sem]
  have c1 : w1.cell? ⟨w.heap.size, 1, none⟩ = some (.string x2) := by
    rw [hgrow.cell_far _ (by simp; omega) (by simp [Value.ownBlock])]; simp [go_sem]
  have ho : Own w1 base (.slice (some ⟨g2, 0, none⟩) (0 + 1) cap2) [(⟨#[]⟩, ⟨#[]⟩)] := hown1
  have hb1 : Below base w w1 := (((below_drewN ((Below.refl _ _).alloc hbase _) _).alloc (by simp; omega) _).grown hgrow (by simp; omega) (by intro k hk; simp [Value.ownBlock] at hk))
  have hbg : base ≤ g2 := by omega
  obtain ⟨f1, f2, f3, f4⟩ := zown_atL ho 0 (by simp)
  have HO := hid ho
  have HB := hid hb1
  clear hown1 hgrow hat hg2 hi0 hz0 hz1 hz2 ho hb1 hg
  go_wp2_with fail
  refine wp_loop_rounds 1 ?_
  rw [rounds_succ]
  go_wp2_with fail
  go_ret
  have hst := zown_storeL HO.out 0 (by simp) x1 x2
  refine ⟨_, [(x1, x2)], rfl, List.pairwise_singleton _ _, fun y => by simp, by simp, ?_, (HB.out.setCell hbg _).setCell hbg _⟩
  exact hst

end Go.Proofs.Ytinmagodckkedab.Z
