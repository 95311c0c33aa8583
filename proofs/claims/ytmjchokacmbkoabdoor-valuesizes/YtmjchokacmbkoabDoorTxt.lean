/-
  The plain mathematics of written texts.
-/
import Derived.Test.YtmjchokacmbkoabDoorPla
namespace Go.Proofs.YtmjchokacmbkoabDoor
open Go.RowKit

def digitsA : ByteArray := ⟨#[48, 49, 50, 51, 52, 53, 54, 55, 56, 57, 97, 98, 99, 100, 101, 102]⟩
def hexd (n : Nat) : UInt8 := if n < 10 then UInt8.ofNat (48 + n) else UInt8.ofNat (87 + n)
def writeC (c : UInt8) : List UInt8 := if plainB (c.toNat : Int) then [c] else [37, hexd (c.toNat / 16), hexd (c.toNat % 16)]
def writeL (l : List UInt8) : List UInt8 := l.flatMap writeC

theorem digit_at (k : Nat) (h : k < 16) : (⟨#[48, 49, 50, 51, 52, 53, 54, 55, 56, 57, 97, 98, 99, 100, 101, 102]⟩ : ByteArray)[k]'h = hexd k := by
  have : k = 0 ∨ k = 1 ∨ k = 2 ∨ k = 3 ∨ k = 4 ∨ k = 5 ∨ k = 6 ∨ k = 7 ∨ k = 8 ∨ k = 9 ∨ k = 10 ∨ k = 11 ∨ k = 12 ∨ k = 13 ∨ k = 14 ∨ k = 15 := by omega
  rcases this with rfl | rfl | rfl | rfl | rfl | rfl | rfl | rfl | rfl | rfl | rfl | rfl | rfl | rfl | rfl | rfl <;> rfl

theorem writeL_cons (c : UInt8) (l : List UInt8) : writeL (c :: l) = writeC c ++ writeL l := rfl
theorem writeL_append (l m : List UInt8) : writeL (l ++ m) = writeL l ++ writeL m := by simp [writeL]
theorem writeC_len (c : UInt8) : (writeC c).length ≤ 3 := by unfold writeC; split <;> simp
theorem writeL_len (l : List UInt8) : (writeL l).length ≤ 3 * l.length := by
  induction l with
  | nil => simp [writeL]
  | cons c l ih => rw [writeL_cons, List.length_append, List.length_cons]; have := writeC_len c; omega

theorem take_succ_byte (s : ByteArray) (i : Nat) (h : i < s.size) : s.data.toList.take (i + 1) = s.data.toList.take i ++ [s[i]] := by
  rw [List.take_succ_eq_append_getElem (by simpa using h)]
  rfl

theorem write_step (s : ByteArray) (i : Nat) (h : i < s.size) : writeL (s.data.toList.take (i + 1)) = writeL (s.data.toList.take i) ++ writeC s[i] := by
  rw [take_succ_byte s i h, writeL_append]
  simp [writeL]

end Go.Proofs.YtmjchokacmbkoabDoor
