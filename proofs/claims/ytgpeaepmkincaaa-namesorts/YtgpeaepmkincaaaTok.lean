/-
  The contracts of token and Token of package name, and of bar and Token of the reference.
-/
import Derived.Test.YtgpeaepmkincaaaCut
namespace Go.Proofs.Ytgpeaepmkincaaa
open Go.RowKit



def tokSys (s : ByteArray) : ByteArray := if 0 ≤ Lib.indexByte s.data.toList 124 then s.extract 0 (Lib.indexByte s.data.toList 124).toNat else ⟨#[]⟩
def tokCode (s : ByteArray) : ByteArray := if 0 ≤ Lib.indexByte s.data.toList 124 then s.extract ((Lib.indexByte s.data.toList 124).toNat + 1) s.size else s
def tokenB (p t : ByteArray) : Bool :=
  if 0 ≤ Lib.indexByte p.data.toList 124 then ((tokSys p).toList == (tokSys t).toList) && ((tokCode p).toList == (tokCode t).toList || (tokCode p).toList.isEmpty)
  else p.toList == (tokCode t).toList

theorem tok_no {s : ByteArray} (h : Lib.indexByte s.data.toList 124 = -1) : tokSys s = ⟨#[]⟩ ∧ tokCode s = s := by
  unfold tokSys tokCode; rw [h]; exact ⟨rfl, rfl⟩
theorem tok_yes {s : ByteArray} {i : Nat} (h : Lib.indexByte s.data.toList 124 = (i : Int)) : tokSys s = s.extract 0 i ∧ tokCode s = s.extract (i + 1) s.size := by
  unfold tokSys tokCode; rw [h, if_pos (by omega), if_pos (by omega), Int.toNat_natCast]; exact ⟨rfl, rfl⟩
theorem tokenB_bare {p : ByteArray} (t : ByteArray) (h : Lib.indexByte p.data.toList 124 = -1) : tokenB p t = (p.toList == (tokCode t).toList) := by
  unfold tokenB; rw [h]; rfl
theorem tokenB_bar {p : ByteArray} {i : Nat} (t : ByteArray) (h : Lib.indexByte p.data.toList 124 = (i : Int)) :
    tokenB p t = (((tokSys p).toList == (tokSys t).toList) && ((tokCode p).toList == (tokCode t).toList || (tokCode p).toList.isEmpty)) := by
  unfold tokenB; rw [h, if_pos (by omega)]

set_option maxHeartbeats 400000 in
theorem token_no (s : ByteArray) (w : World) (hix : Lib.indexByte s.data.toList 124 = -1) :
    Calls Try.prog 45 #[.string s] w fun e w' => e = .returned (.tuple #[.string ⟨#[]⟩, .string s]) ∧ w' = w := by
  have HX : Hid (Lib.indexByte s.data.toList 124 = -1) := hix
  clear hix
  go_enter Try.func45, Try.ntmps45
  go_wp2_with (go_at_call 37; refine (cut_no _ _ _ HX.out).mono ?_; rintro e w' ⟨rfl, rfl⟩)
  go_ret2
  exact ⟨rfl, rfl⟩

set_option maxHeartbeats 400000 in
theorem token_yes (s : ByteArray) (w : World) (i : Nat) (hix : Lib.indexByte s.data.toList 124 = (i : Int)) (hi : i < s.size) (hs : s.size ≤ maxLen) :
    Calls Try.prog 45 #[.string s] w fun e w' => e = .returned (.tuple #[.string (s.extract 0 i), .string (s.extract (i + 1) s.size)]) ∧ ∃ n, w' = w.drewN n := by
  have HX : Hid (Lib.indexByte s.data.toList 124 = (i : Int) ∧ i < s.size ∧ s.size ≤ maxLen) := ⟨hix, hi, hs⟩
  clear hix hi hs
  go_enter Try.func45, Try.ntmps45
  go_wp2_with (go_at_call 37; refine (cut_yes _ _ _ i HX.out.1 HX.out.2.1 HX.out.2.2).mono ?_; rintro e w' ⟨rfl, n, rfl⟩)
  go_ret2
  exact ⟨rfl, n, rfl⟩

theorem token_any (s : ByteArray) (w : World) (hs : s.size ≤ maxLen) :
    Calls Try.prog 45 #[.string s] w fun e w' => e = .returned (.tuple #[.string (tokSys s), .string (tokCode s)]) ∧ ∃ n, w' = w.drewN n := by
  rcases ix_cases s.data.toList 124 with ⟨h1, _⟩ | ⟨i, h1, h2, _, _⟩
  · rw [(tok_no h1).1, (tok_no h1).2]
    exact (token_no s w h1).mono fun e w' ⟨a, b⟩ => ⟨a, 0, by rw [b]; rfl⟩
  · rw [(tok_yes h1).1, (tok_yes h1).2]
    exact token_yes s w i h1 (by simpa using h2) hs

set_option maxHeartbeats 400000 in
theorem Token_any (p t : ByteArray) (w : World) (hp : p.size ≤ maxLen) (ht : t.size ≤ maxLen) :
    Calls Try.prog 28 #[.string p, .string t] w fun e w' => e = .returned (.bool (tokenB p t)) ∧ ∃ n, w' = w.drewN n := by
  have HS : Hid (p.size ≤ maxLen ∧ t.size ≤ maxLen) := ⟨hp, ht⟩
  clear hp ht
  rcases ix_cases p.data.toList 124 with ⟨h1, _⟩ | ⟨i, h1, _, _, _⟩
  · have HB := hid (tokenB_bare t h1)
    have hd : decide (0 ≤ Lib.indexByte p.data.toList 124) = false := by rw [h1]; rfl
    clear h1
    go_enter Try.func28, Try.ntmps28
    go_wp2_with (first | (go_at_call 45; refine (token_any _ _ HS.out.2).mono ?_; rintro e w' ⟨rfl, n, rfl⟩) | (go_at_call 46; refine (Try.strings_Contains_one _ _ _).mono ?_; rintro e w' ⟨rfl, rfl⟩))
    go_ret
    exact ⟨ret_bool (HB.out).symm, n, rfl⟩
  · have HB := hid (tokenB_bar t h1)
    have hd : decide (0 ≤ Lib.indexByte p.data.toList 124) = true := by rw [h1]; simp
    clear h1
    go_enter Try.func28, Try.ntmps28
    go_wp2_with fail
    refine (token_any _ _ HS.out.2).mono ?_
    rintro e w' ⟨rfl, n, rfl⟩
    go_wp2_with (go_at_call 46; refine (Try.strings_Contains_one _ _ _).mono ?_; rintro e w' ⟨rfl, rfl⟩)
    refine (token_any _ _ HS.out.1).mono ?_
    rintro e w' ⟨rfl, m, rfl⟩
    cases e1 : ((tokSys p).toList == (tokSys t).toList)
    · go_wp2_with fail
      go_ret
      exact ⟨ret_bool (by rw [HB.out, e1]; rfl), _, rfl⟩
    · cases e2 : ((tokCode p).toList == (tokCode t).toList)
      · go_wp2_with fail
        go_ret
        exact ⟨ret_bool (by rw [HB.out, e1, e2]; rfl), _, rfl⟩
      · go_wp2_with fail
        go_ret
        exact ⟨ret_bool (by rw [HB.out, e1, e2]; rfl), _, rfl⟩

end Go.Proofs.Ytgpeaepmkincaaa
