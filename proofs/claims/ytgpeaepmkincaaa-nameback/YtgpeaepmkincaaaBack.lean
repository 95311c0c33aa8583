/-
  The walk of NameBack.
-/
import Derived.Test.YtgpeaepmkincaaaBacka
namespace Go.Proofs.Ytgpeaepmkincaaa
open Go.RowKit

theorem fixed_yes (w : World) : Calls Try.prog 9 #[] w fun e w' => e = .returned (.bool true) ∧ Below w.heap.size w w' := fixed_of fix_sort w

/-- A call of Parse that gives the key x, y. -/
def ParseGives (s x y : ByteArray) (n : Int) : Prop := ∀ w, Calls Try.prog 18 #[.string s] w fun e w' => e = .returned (.tuple #[.agg #[.string x, .string y], .int .i64 n]) ∧ Below w.heap.size w w'
/-- A call of Print that gives the text s. -/
def PrintGives (x y s : ByteArray) (n : Int) : Prop := ∀ w, Calls Try.prog 20 #[.agg #[.string x, .string y]] w fun e w' => e = .returned (.tuple #[.string s, .int .i64 n]) ∧ Below w.heap.size w w'

set_option maxHeartbeats 1000000 in
theorem back_ty (a b s t x y : ByteArray) (w : World) (ha : a.size ≤ maxLen) (hb : b.size ≤ maxLen) (hk : keyB a b = true) (pr : PrintGives a b t 0) (pa : ParseGives t a b 0) (ps : ParseGives s x y 0) (px : PrintGives x y s 0) (ty : typeB x.data.toList = true) (iy : idenB y.data.toList = true) (hx : x.size ≤ maxLen) (hy : y.size ≤ maxLen) :
    Calls Try.prog 5 #[.agg #[.string a, .string b], .string s] w fun o w' => o = .returned (.bool true) ∧ Below w.heap.size w w' := by
  have HS := hid (And.intro ha hb)
  have HK := hid hk
  clear ha hb hk
  have hpr := fun W => pr W
  have hpa := fun W => pa W
  have hne := fun W => neq_key a b a b W
  rw [eqK_self] at hne
  have hps := fun W => ps W
  have hpx := fun W => px W
  have hty := fun W => type_any x W hx
  rw [ty] at hty
  have hid2 := fun W => iden_any y W hy
  rw [iy] at hid2
  have hpr_ := hid hpr
  clear hpr
  have hps_ := hid hps
  clear hps
  have hpa_ := hid hpa
  clear hpa
  have hpx_ := hid hpx
  clear hpx
  have hty_ := hid hty
  clear hty
  have hid2_ := hid hid2
  clear hid2
  clear ty iy hx hy px
  clear pr ps
  clear pa
  go_enter Try.func5, Try.ntmps5
  go_wp2_with fail
  refine (fixed_yes _).mono ?_
  rintro o w1 ⟨rfl, hq1⟩
  have c0 : w1.cell? ⟨w.heap.size, 0, none⟩ = some (.string a) := kept hq1 (by simp [go_sem])
  have c1 : w1.cell? ⟨w.heap.size, 1, none⟩ = some (.string b) := kept hq1 (by simp [go_sem])
  have b1 : Below w.heap.size w w1 := ((Below.refl _ _).alloc (Nat.le_refl _) _).trans (hq1.mono (by simp))
  clear hq1
  go_wp2_with fail
  refine (hpr_.out _).mono ?_
  rintro o w2 ⟨rfl, hq2⟩
  have e0 := kept hq2 c0
  have e1 := kept hq2 c1
  have b2 := b1.trans (hq2.mono b1.size)
  clear hq2 c0 c1 b1
  go_wp2_with fail
  refine (key_any a b _ HS.out.1 HS.out.2).mono ?_
  rintro o w3 ⟨rfl, hq3⟩
  rw [HK.out]
  have f0 := kept hq3 e0
  have f1 := kept hq3 e1
  have b3 := b2.trans (hq3.mono b2.size)
  clear hq3 b2 e0 e1
  go_wp2_with fail
  refine (hpa_.out _).mono ?_
  rintro o w4 ⟨rfl, hq4⟩
  have g0 := kept hq4 f0
  have g1 := kept hq4 f1
  have i0 := kept_new (.cells #[.string a, .string b] 26) g0
  have i1 := kept_new (.cells #[.string a, .string b] 26) g1
  have b4 := (b3.trans (hq4.mono b3.size))
  have b5 := b4.alloc b4.size (.cells #[.string a, .string b] 26)
  clear hq4 f0 f1 g0 g1 b3 b4
  go_wp2_with fail
  refine (hps_.out _).mono ?_
  rintro o w6 ⟨rfl, hq6⟩
  have b6 := b5.trans (hq6.mono b5.size)
  clear hq6
  go_wp2_with fail
  refine (hpx_.out _).mono ?_
  rintro o w7 ⟨rfl, hq7⟩
  have j0 : w7.cell? ⟨w6.heap.size, 0, none⟩ = some (.string x) := kept hq7 (by simp [go_sem])
  have j1 : w7.cell? ⟨w6.heap.size, 1, none⟩ = some (.string y) := kept hq7 (by simp [go_sem])
  have b7 := (b6.alloc b6.size _).trans (hq7.mono (by have := b6.size; simp; omega))
  clear hq7 b6
  go_wp2_with (first | (go_at_call 10; refine (hty_.out _).mono ?_; rintro o w' ⟨rfl, rfl⟩) | (go_at_call 12; refine (hid2_.out _).mono ?_; rintro o w' ⟨rfl, rfl⟩))
  go_ret
  exact ⟨rfl, b7⟩

set_option maxHeartbeats 1000000 in
theorem back_tn (a b s t : ByteArray) (w : World) (ha : a.size ≤ maxLen) (hb : b.size ≤ maxLen) (hk : keyB a b = true) (pr : PrintGives a b t 0) (pa : ParseGives t a b 0) (ps : ParseGives s ⟨#[]⟩ ⟨#[]⟩ 2) :
    Calls Try.prog 5 #[.agg #[.string a, .string b], .string s] w fun o w' => o = .returned (.bool true) ∧ Below w.heap.size w w' := by
  have HS := hid (And.intro ha hb)
  have HK := hid hk
  clear ha hb hk
  have hpr := fun W => pr W
  have hpa := fun W => pa W
  have hne := fun W => neq_key a b a b W
  rw [eqK_self] at hne
  have hps := fun W => ps W
  have heq := fun W => eql_key ⟨#[]⟩ ⟨#[]⟩ ⟨#[]⟩ ⟨#[]⟩ W
  rw [eqK_self] at heq
  have hpr_ := hid hpr
  clear hpr
  have hps_ := hid hps
  clear hps
  have hpa_ := hid hpa
  clear hpa
  clear pr ps
  clear pa
  go_enter Try.func5, Try.ntmps5
  go_wp2_with fail
  refine (fixed_yes _).mono ?_
  rintro o w1 ⟨rfl, hq1⟩
  have c0 : w1.cell? ⟨w.heap.size, 0, none⟩ = some (.string a) := kept hq1 (by simp [go_sem])
  have c1 : w1.cell? ⟨w.heap.size, 1, none⟩ = some (.string b) := kept hq1 (by simp [go_sem])
  have b1 : Below w.heap.size w w1 := ((Below.refl _ _).alloc (Nat.le_refl _) _).trans (hq1.mono (by simp))
  clear hq1
  go_wp2_with fail
  refine (hpr_.out _).mono ?_
  rintro o w2 ⟨rfl, hq2⟩
  have e0 := kept hq2 c0
  have e1 := kept hq2 c1
  have b2 := b1.trans (hq2.mono b1.size)
  clear hq2 c0 c1 b1
  go_wp2_with fail
  refine (key_any a b _ HS.out.1 HS.out.2).mono ?_
  rintro o w3 ⟨rfl, hq3⟩
  rw [HK.out]
  have f0 := kept hq3 e0
  have f1 := kept hq3 e1
  have b3 := b2.trans (hq3.mono b2.size)
  clear hq3 b2 e0 e1
  go_wp2_with fail
  refine (hpa_.out _).mono ?_
  rintro o w4 ⟨rfl, hq4⟩
  have g0 := kept hq4 f0
  have g1 := kept hq4 f1
  have i0 := kept_new (.cells #[.string a, .string b] 26) g0
  have i1 := kept_new (.cells #[.string a, .string b] 26) g1
  have b4 := (b3.trans (hq4.mono b3.size))
  have b5 := b4.alloc b4.size (.cells #[.string a, .string b] 26)
  clear hq4 f0 f1 g0 g1 b3 b4
  go_wp2_with fail
  refine (hps_.out _).mono ?_
  rintro o w6 ⟨rfl, hq6⟩
  have b6 := b5.trans (hq6.mono b5.size)
  clear hq6
  go_wp2_with fail
  go_ret
  exact ⟨rfl, b6.alloc b6.size _⟩

set_option maxHeartbeats 1000000 in
theorem back_fy (a b s x y : ByteArray) (w : World) (ha : a.size ≤ maxLen) (hb : b.size ≤ maxLen) (hk : keyB a b = false) (pr : PrintGives a b ⟨#[]⟩ 2) (ps : ParseGives s x y 0) (px : PrintGives x y s 0) (ty : typeB x.data.toList = true) (iy : idenB y.data.toList = true) (hx : x.size ≤ maxLen) (hy : y.size ≤ maxLen) :
    Calls Try.prog 5 #[.agg #[.string a, .string b], .string s] w fun o w' => o = .returned (.bool true) ∧ Below w.heap.size w w' := by
  have HS := hid (And.intro ha hb)
  have HK := hid hk
  clear ha hb hk
  have hpr := fun W => pr W
  have hps := fun W => ps W
  have hpx := fun W => px W
  have hty := fun W => type_any x W hx
  rw [ty] at hty
  have hid2 := fun W => iden_any y W hy
  rw [iy] at hid2
  have hpr_ := hid hpr
  clear hpr
  have hps_ := hid hps
  clear hps
  have hpx_ := hid hpx
  clear hpx
  have hty_ := hid hty
  clear hty
  have hid2_ := hid hid2
  clear hid2
  clear ty iy hx hy px
  clear pr ps
  go_enter Try.func5, Try.ntmps5
  go_wp2_with fail
  refine (fixed_yes _).mono ?_
  rintro o w1 ⟨rfl, hq1⟩
  have c0 : w1.cell? ⟨w.heap.size, 0, none⟩ = some (.string a) := kept hq1 (by simp [go_sem])
  have c1 : w1.cell? ⟨w.heap.size, 1, none⟩ = some (.string b) := kept hq1 (by simp [go_sem])
  have b1 : Below w.heap.size w w1 := ((Below.refl _ _).alloc (Nat.le_refl _) _).trans (hq1.mono (by simp))
  clear hq1
  go_wp2_with fail
  refine (hpr_.out _).mono ?_
  rintro o w2 ⟨rfl, hq2⟩
  have e0 := kept hq2 c0
  have e1 := kept hq2 c1
  have b2 := b1.trans (hq2.mono b1.size)
  clear hq2 c0 c1 b1
  go_wp2_with fail
  refine (key_any a b _ HS.out.1 HS.out.2).mono ?_
  rintro o w3 ⟨rfl, hq3⟩
  rw [HK.out]
  have f0 := kept hq3 e0
  have f1 := kept hq3 e1
  have b3 := b2.trans (hq3.mono b2.size)
  clear hq3 b2 e0 e1
  go_wp2_with fail
  clear f0 f1
  have b5 := b3
  refine (hps_.out _).mono ?_
  rintro o w6 ⟨rfl, hq6⟩
  have b6 := b5.trans (hq6.mono b5.size)
  clear hq6
  go_wp2_with fail
  refine (hpx_.out _).mono ?_
  rintro o w7 ⟨rfl, hq7⟩
  have j0 : w7.cell? ⟨w6.heap.size, 0, none⟩ = some (.string x) := kept hq7 (by simp [go_sem])
  have j1 : w7.cell? ⟨w6.heap.size, 1, none⟩ = some (.string y) := kept hq7 (by simp [go_sem])
  have b7 := (b6.alloc b6.size _).trans (hq7.mono (by have := b6.size; simp; omega))
  clear hq7 b6
  go_wp2_with (first | (go_at_call 10; refine (hty_.out _).mono ?_; rintro o w' ⟨rfl, rfl⟩) | (go_at_call 12; refine (hid2_.out _).mono ?_; rintro o w' ⟨rfl, rfl⟩))
  go_ret
  exact ⟨rfl, b7⟩

set_option maxHeartbeats 1000000 in
theorem back_fn (a b s : ByteArray) (w : World) (ha : a.size ≤ maxLen) (hb : b.size ≤ maxLen) (hk : keyB a b = false) (pr : PrintGives a b ⟨#[]⟩ 2) (ps : ParseGives s ⟨#[]⟩ ⟨#[]⟩ 2) :
    Calls Try.prog 5 #[.agg #[.string a, .string b], .string s] w fun o w' => o = .returned (.bool true) ∧ Below w.heap.size w w' := by
  have HS := hid (And.intro ha hb)
  have HK := hid hk
  clear ha hb hk
  have hpr := fun W => pr W
  have hps := fun W => ps W
  have heq := fun W => eql_key ⟨#[]⟩ ⟨#[]⟩ ⟨#[]⟩ ⟨#[]⟩ W
  rw [eqK_self] at heq
  have hpr_ := hid hpr
  clear hpr
  have hps_ := hid hps
  clear hps
  clear pr ps
  go_enter Try.func5, Try.ntmps5
  go_wp2_with fail
  refine (fixed_yes _).mono ?_
  rintro o w1 ⟨rfl, hq1⟩
  have c0 : w1.cell? ⟨w.heap.size, 0, none⟩ = some (.string a) := kept hq1 (by simp [go_sem])
  have c1 : w1.cell? ⟨w.heap.size, 1, none⟩ = some (.string b) := kept hq1 (by simp [go_sem])
  have b1 : Below w.heap.size w w1 := ((Below.refl _ _).alloc (Nat.le_refl _) _).trans (hq1.mono (by simp))
  clear hq1
  go_wp2_with fail
  refine (hpr_.out _).mono ?_
  rintro o w2 ⟨rfl, hq2⟩
  have e0 := kept hq2 c0
  have e1 := kept hq2 c1
  have b2 := b1.trans (hq2.mono b1.size)
  clear hq2 c0 c1 b1
  go_wp2_with fail
  refine (key_any a b _ HS.out.1 HS.out.2).mono ?_
  rintro o w3 ⟨rfl, hq3⟩
  rw [HK.out]
  have f0 := kept hq3 e0
  have f1 := kept hq3 e1
  have b3 := b2.trans (hq3.mono b2.size)
  clear hq3 b2 e0 e1
  go_wp2_with fail
  clear f0 f1
  have b5 := b3
  refine (hps_.out _).mono ?_
  rintro o w6 ⟨rfl, hq6⟩
  have b6 := b5.trans (hq6.mono b5.size)
  clear hq6
  go_wp2_with fail
  go_ret
  exact ⟨rfl, b6.alloc b6.size _⟩

end Go.Proofs.Ytgpeaepmkincaaa
