/-
  The contracts of Key, Print and Parse of package name.
-/
import Derived.Test.YtgpeaepmkincaaaSpell
import Derived.Test.YtgpeaepmkincaaaCut
namespace Go.Proofs.Ytgpeaepmkincaaa
open Go.RowKit

def keyB (a b : ByteArray) : Bool := typeB a.data.toList && idenB b.data.toList

theorem bcell {W w1 : World} (hb : Below W.heap.size W w1) : (∀ b o, b < W.heap.size → w1.cell? ⟨b, o, none⟩ = W.cell? ⟨b, o, none⟩) ∧ (∀ b o, b < W.heap.size → w1.frozen? ⟨b, o, none⟩ = W.frozen? ⟨b, o, none⟩) :=
  ⟨fun b o h => hb.cell (p := ⟨b, o, none⟩) h, fun b o h => hb.frozen (p := ⟨b, o, none⟩) h⟩

set_option maxHeartbeats 400000 in
theorem key_any (a b : ByteArray) (w : World) (ha : a.size ≤ maxLen) (hb : b.size ≤ maxLen) :
    Calls Try.prog 22 #[.agg #[.string a, .string b]] w fun e w' => e = .returned (.bool (keyB a b)) ∧ Below w.heap.size w w' := by
  have HK : Hid (keyB a b = (typeB a.data.toList && idenB b.data.toList)) := rfl
  cases ht : typeB a.data.toList
  all_goals
    go_enter Try.func22, Try.ntmps22
    go_wp2_with (first | (go_at_call 10; refine (type_any _ _ ha).mono ?_; rintro e w' ⟨rfl, rfl⟩) | (go_at_call 12; refine (iden_any _ _ hb).mono ?_; rintro e w' ⟨rfl, rfl⟩))
    go_ret
    exact ⟨ret_bool (by rw [HK.out, ht]; rfl), (Below.refl _ _).alloc (Nat.le_refl _) _⟩

set_option maxHeartbeats 400000 in
theorem print_no (a b : ByteArray) (w : World) (ha : a.size ≤ maxLen) (hb : b.size ≤ maxLen) (hk : keyB a b = false) :
    Calls Try.prog 20 #[.agg #[.string a, .string b]] w fun e w' => e = .returned (.tuple #[.string ⟨#[]⟩, .int .i64 2]) ∧ Below w.heap.size w w' := by
  go_enter Try.func20, Try.ntmps20
  go_wp2_with (go_at_call 22; refine (key_any _ _ _ ha hb).mono ?_; rintro e w1 ⟨rfl, hq⟩)
  go_ret2
  exact ⟨rfl, ((Below.refl _ _).alloc (Nat.le_refl _) _).trans (hq.mono (by simp))⟩

set_option maxHeartbeats 400000 in
theorem print_yes (a b : ByteArray) (w : World) (ha : a.size ≤ maxLen) (hb : b.size ≤ maxLen) (ha32 : a.size ≤ 32) (hb32 : b.size ≤ 32) (hk : keyB a b = true) :
    Calls Try.prog 20 #[.agg #[.string a, .string b]] w fun e w' => e = .returned (.tuple #[.string (a ++ ⟨#[47]⟩ ++ b), .int .i64 0]) ∧ Below w.heap.size w w' := by
  go_enter Try.func20, Try.ntmps20
  go_wp2_with (go_at_call 22; refine (key_any _ _ _ ha hb).mono ?_; rintro e w1 ⟨rfl, hq⟩; obtain ⟨hc, hf⟩ := bcell hq)
  go_ret2
  refine ⟨?_, ((Below.refl _ _).alloc (Nat.le_refl _) _).trans (hq.mono (by simp))⟩
  rfl

theorem typeB_len {l : List UInt8} (h : typeB l = true) : l.length ≤ 32 := by
  cases l with
  | nil => simp
  | cons c r => simp [typeB, spell] at h; simp; omega
theorem idenB_len {l : List UInt8} (h : idenB l = true) : l.length ≤ 32 := by
  cases l with
  | nil => simp
  | cons c r => simp [idenB, spell] at h; simp; omega
theorem idenB_empty : idenB [] = false := rfl

theorem keyB_empty (a : ByteArray) : keyB a ⟨#[]⟩ = false := by
  unfold keyB
  rw [show (⟨#[]⟩ : ByteArray).data.toList = [] from rfl, idenB_empty, Bool.and_false]

theorem ext_size (s : ByteArray) (i j : Nat) (h : s.size ≤ maxLen) : (s.extract i j).size ≤ maxLen := by
  have : (s.extract i j).size ≤ s.size := by simp; omega
  omega

set_option maxHeartbeats 400000 in
/-- No slash: no key. -/
theorem parse_bare (s : ByteArray) (w : World) (hs : s.size ≤ maxLen) (hix : Lib.indexByte s.data.toList 47 = -1) :
    Calls Try.prog 18 #[.string s] w fun e w' => e = .returned (.tuple #[.agg #[.string ⟨#[]⟩, .string ⟨#[]⟩], .int .i64 2]) ∧ Below w.heap.size w w' := by
  have HX : Hid (Lib.indexByte s.data.toList 47 = -1) := hix
  clear hix
  have hk := keyB_empty s
  have h0 : (⟨#[]⟩ : ByteArray).size ≤ maxLen := by decide
  go_enter Try.func18, Try.ntmps18
  go_wp2_with (first | (go_at_call 37; refine (cut_no _ _ _ HX.out).mono ?_; rintro e w' ⟨rfl, rfl⟩) | (go_at_call 22; refine (key_any _ _ _ hs h0).mono ?_; rintro e w1 ⟨rfl, hq⟩; obtain ⟨hc, hf⟩ := bcell hq))
  have c0 : w1.cell? ⟨w.heap.size, 0, none⟩ = some (.string ⟨#[]⟩) := by rw [hc _ _ (by simp; omega)]; simp [go_sem]
  have c1 : w1.cell? ⟨w.heap.size, 1, none⟩ = some (.string ⟨#[]⟩) := by rw [hc _ _ (by simp; omega)]; simp [go_sem]
  exact bodyPost_ret (v := .tuple #[.agg #[.string ⟨#[]⟩, .string ⟨#[]⟩], .int .i64 2]) (by simp [results, Try.results18, go_sem, c0, c1]) rfl
    ⟨rfl, (((((Below.refl _ _).alloc (Nat.le_refl _) _).alloc (by simp) _).trans (hq.mono (by simp; omega))).setCell (by simp) _).setCell (by simp) _⟩

set_option maxHeartbeats 400000 in
theorem parse_no (s : ByteArray) (w : World) (hs : s.size ≤ maxLen) (i : Nat) (hix : Lib.indexByte s.data.toList 47 = (i : Int)) (hi : i < s.size)
    (hk : keyB (s.extract 0 i) (s.extract (i + 1) s.size) = false) :
    Calls Try.prog 18 #[.string s] w fun e w' => e = .returned (.tuple #[.agg #[.string ⟨#[]⟩, .string ⟨#[]⟩], .int .i64 2]) ∧ Below w.heap.size w w' := by
  have HX : Hid (Lib.indexByte s.data.toList 47 = (i : Int)) := hix
  have h1 := ext_size s 0 i hs
  have h2 := ext_size s (i + 1) s.size hs
  have HH : Hid (i < s.size ∧ s.size ≤ maxLen ∧ (s.extract 0 i).size ≤ maxLen ∧ (s.extract (i + 1) s.size).size ≤ maxLen) := ⟨hi, hs, h1, h2⟩
  clear hix hi hs h1 h2
  go_enter Try.func18, Try.ntmps18
  go_wp2_with (first | (go_at_call 37; refine (cut_yes _ _ _ i HX.out HH.out.1 HH.out.2.1).mono ?_; rintro e w' ⟨rfl, n, rfl⟩) | (go_at_call 22; refine (key_any _ _ _ HH.out.2.2.1 HH.out.2.2.2).mono ?_; rintro e w1 ⟨rfl, hq⟩; obtain ⟨hc, hf⟩ := bcell hq))
  have c0 : w1.cell? ⟨w.heap.size, 0, none⟩ = some (.string ⟨#[]⟩) := by rw [hc _ _ (by simp; omega)]; simp [go_sem]
  have c1 : w1.cell? ⟨w.heap.size, 1, none⟩ = some (.string ⟨#[]⟩) := by rw [hc _ _ (by simp; omega)]; simp [go_sem]
  exact bodyPost_ret (v := .tuple #[.agg #[.string ⟨#[]⟩, .string ⟨#[]⟩], .int .i64 2]) (by simp [results, Try.results18, go_sem, c0, c1]) rfl
    ⟨rfl, ((((below_drewN ((Below.refl _ _).alloc (Nat.le_refl _) _) _).alloc (by simp) _).trans (hq.mono (by simp; omega))).setCell (by simp) _).setCell (by simp) _⟩

set_option maxHeartbeats 400000 in
theorem parse_yes (s : ByteArray) (w : World) (hs : s.size ≤ maxLen) (i : Nat) (hix : Lib.indexByte s.data.toList 47 = (i : Int)) (hi : i < s.size)
    (hk : keyB (s.extract 0 i) (s.extract (i + 1) s.size) = true) :
    Calls Try.prog 18 #[.string s] w fun e w' => e = .returned (.tuple #[.agg #[.string (s.extract 0 i), .string (s.extract (i + 1) s.size)], .int .i64 0]) ∧ Below w.heap.size w w' := by
  have HX : Hid (Lib.indexByte s.data.toList 47 = (i : Int)) := hix
  have h1 := ext_size s 0 i hs
  have h2 := ext_size s (i + 1) s.size hs
  have HH : Hid (i < s.size ∧ s.size ≤ maxLen ∧ (s.extract 0 i).size ≤ maxLen ∧ (s.extract (i + 1) s.size).size ≤ maxLen) := ⟨hi, hs, h1, h2⟩
  clear hix hi hs h1 h2
  go_enter Try.func18, Try.ntmps18
  go_wp2_with (first | (go_at_call 37; refine (cut_yes _ _ _ i HX.out HH.out.1 HH.out.2.1).mono ?_; rintro e w' ⟨rfl, n, rfl⟩) | (go_at_call 22; refine (key_any _ _ _ HH.out.2.2.1 HH.out.2.2.2).mono ?_; rintro e w1 ⟨rfl, hq⟩; obtain ⟨hc, hf⟩ := bcell hq))
  have c0 : w1.cell? ⟨w.heap.size, 0, none⟩ = some (.string ⟨#[]⟩) := by rw [hc _ _ (by simp; omega)]; simp [go_sem]
  have c1 : w1.cell? ⟨w.heap.size, 1, none⟩ = some (.string ⟨#[]⟩) := by rw [hc _ _ (by simp; omega)]; simp [go_sem]
  exact bodyPost_ret (v := .tuple #[.agg #[.string (s.extract 0 i), .string (s.extract (i + 1) s.size)], .int .i64 0]) (by simp [results, Try.results18, go_sem, c0, c1]) rfl
    ⟨rfl, ((((below_drewN ((Below.refl _ _).alloc (Nat.le_refl _) _) _).alloc (by simp) _).trans (hq.mono (by simp; omega))).setCell (by simp) _).setCell (by simp) _⟩

end Go.Proofs.Ytgpeaepmkincaaa
