/-
  Texts of this claim, one behind the other: Pc7 Pc8 Kp0 Pc9.
-/
import Derived.Test.YtfcjnoojcajljaaGreatDoorPc
import Derived.Test.YtfcjnoojcajljaaGreatDoorPa
import Derived.Laws.RangeString
import Derived.Lib.IndexAny
import Derived.ChangeMaps5
import Derived.Deep.QuietTactic
import Derived.BigQuiet
import Derived.WalkMore
import Derived.Test.YtfcjnoojcajljaaGreatDoorPb
import Derived.Laws.CopyOwn
import Derived.Maps.AppendAt
/-
  The contracts of strings.IndexRune of a rune beyond ASCII, and of strings.IndexAny, both at the operators' signs.
-/
namespace Go.Proofs.YtfcjnoojcajljaaGreatDoor
open Go.RowKit Go.Lib Go.ChangeMaps

def signsA : ByteArray := ⟨#[61, 33, 94, 60, 62, 63, 45]⟩

theorem signs_op (c : UInt8) : signsA.data.toList.contains c = isOp c := by
  rw [Bool.eq_iff_iff]
  constructor
  · intro h
    have : c ∈ signsA.data.toList := by simpa using h
    simp [signsA] at this
    rcases this with rfl | rfl | rfl | rfl | rfl | rfl | rfl <;> decide
  · intro h
    rcases op_sign h with rfl | rfl | rfl | rfl | rfl | rfl | rfl <;> decide

/-- k is the place of the first sign in l, or -1. -/
def FirstOp (l : List UInt8) (k : Int) : Prop := (k = -1 ∧ ∀ c ∈ l, isOp c = false) ∨ ∃ i : Nat, k = i ∧ ∃ h : i < l.length, isOp l[i] = true ∧ ∀ c ∈ l.take i, isOp c = false

theorem indexAny_first : ∀ l : List UInt8, FirstOp l (Lib.indexAny l signsA.data.toList)
  | [] => Or.inl ⟨rfl, fun c hc => by simp at hc⟩
  | b :: l => by
    have ih := indexAny_first l
    unfold Lib.indexAny
    rw [signs_op]
    cases hb : isOp b with
    | true =>
      rw [if_pos rfl]
      exact Or.inr ⟨0, rfl, by simp, hb, fun c hc => by simp at hc⟩
    | false =>
      rw [if_neg (by simp)]
      rcases ih with ⟨h1, h2⟩ | ⟨i, h1, hi, h3, h4⟩
      · rw [h1]
        refine Or.inl ⟨rfl, fun c hc => ?_⟩
        rcases List.mem_cons.1 hc with rfl | hc
        · exact hb
        · exact h2 c hc
      · rw [h1]
        have : ((i : Int) == -1) = false := by simp
        rw [this, if_neg (by simp)]
        refine Or.inr ⟨i + 1, rfl, by simpa using hi, by simpa using h3, fun c hc => ?_⟩
        rw [List.take_succ_cons] at hc
        rcases List.mem_cons.1 hc with rfl | hc
        · exact hb
        · exact h4 c hc

theorem get_at (s : ByteArray) (i : Nat) (h : i < s.size) : s.get! i = s[i]'h := by
  simp [ByteArray.get!, getElem!_pos, h]
  rfl

/-- A rune beyond ASCII, as it is read. -/
theorem dec_high (s : ByteArray) (pos : Nat) (h : pos < s.size) (hb : 128 ≤ (s[pos]'h).toNat) :
    128 ≤ (Utf8.decode s pos).1 ∧ (Utf8.decode s pos).1 ≤ 2097151 ∧ 1 ≤ (Utf8.decode s pos).2 ∧ pos + (Utf8.decode s pos).2 ≤ s.size ∧ ∀ j, pos ≤ j → j < pos + (Utf8.decode s pos).2 → 128 ≤ (s.get! j).toNat := by
  have e0 : (s.get! (pos + 0)).toNat = (s[pos]'h).toNat := by rw [Nat.add_zero, get_at s pos h]
  have hlt : ∀ k, (s.get! (pos + k)).toNat < 256 := fun k => UInt8.toNat_lt _
  have hcont : ∀ k, (decide (pos + k < s.size) && (s.get! (pos + k)).toNat / 64 == 2) = true → pos + k < s.size ∧ 128 ≤ (s.get! (pos + k)).toNat := fun k hk => by
    rw [Bool.and_eq_true] at hk
    have h1 := of_decide_eq_true hk.1
    have h2 := beq_iff_eq.1 hk.2
    exact ⟨h1, by omega⟩
  have hp0 : 128 ≤ (s.get! pos).toNat := by rw [get_at s pos h]; exact hb
  have hone : ∀ j, pos ≤ j → j < pos + 1 → 128 ≤ (s.get! j).toNat := fun j h1 h2 => by
    have : j = pos := by omega
    subst this; exact hp0
  have herr : (128 ≤ Utf8.runeError) ∧ Utf8.runeError ≤ 2097151 := by decide
  unfold Utf8.decode
  simp only [e0]
  have h80 : ¬ (s[pos]'h).toNat < 128 := by omega
  rw [if_neg h80]
  have hbound : (s[pos]'h).toNat < 256 := UInt8.toNat_lt _
  have l1 := hlt 1
  have l2 := hlt 2
  have l3 := hlt 3
  split
  · rename_i h1
    rw [Bool.and_eq_true] at h1
    obtain ⟨c1, c2⟩ := hcont 1 h1.2
    split
    · rename_i h2
      refine ⟨h2, by omega, by omega, by omega, fun j g1 g2 => ?_⟩
      rcases (show j = pos ∨ j = pos + 1 by omega) with rfl | rfl
      · exact hp0
      · exact c2
    · exact ⟨herr.1, herr.2, by omega, by omega, hone⟩
  · split
    · rename_i h1
      rw [Bool.and_eq_true, Bool.and_eq_true] at h1
      obtain ⟨c1, c2⟩ := hcont 1 h1.1.2
      obtain ⟨d1, d2⟩ := hcont 2 h1.2
      split
      · rename_i h2
        rw [Bool.and_eq_true] at h2
        have h3 := of_decide_eq_true h2.1
        refine ⟨by omega, by omega, by omega, by omega, fun j g1 g2 => ?_⟩
        rcases (show j = pos ∨ j = pos + 1 ∨ j = pos + 2 by omega) with rfl | rfl | rfl
        · exact hp0
        · exact c2
        · exact d2
      · exact ⟨herr.1, herr.2, by omega, by omega, hone⟩
    · split
      · rename_i h1
        rw [Bool.and_eq_true, Bool.and_eq_true, Bool.and_eq_true] at h1
        obtain ⟨c1, c2⟩ := hcont 1 h1.1.1.2
        obtain ⟨d1, d2⟩ := hcont 2 h1.1.2
        obtain ⟨f1, f2⟩ := hcont 3 h1.2
        split
        · rename_i h2
          rw [Bool.and_eq_true] at h2
          have h3 := of_decide_eq_true h2.1
          refine ⟨by omega, by omega, by omega, by omega, fun j g1 g2 => ?_⟩
          rcases (show j = pos ∨ j = pos + 1 ∨ j = pos + 2 ∨ j = pos + 3 by omega) with rfl | rfl | rfl | rfl
          · exact hp0
          · exact c2
          · exact d2
          · exact f2
        · exact ⟨herr.1, herr.2, by omega, by omega, hone⟩
      · exact ⟨herr.1, herr.2, by omega, by omega, hone⟩

/-- The last byte of a rune beyond ASCII, as it is written. -/
theorem enc_last (r : Int) (h : 128 ≤ r) : ∃ m : Nat, 1 ≤ m ∧ m ≤ 3 ∧ ∃ hs : (Utf8.encode r).size = m + 1, 128 ≤ ((Utf8.encode r)[m]'(by omega)).toNat := by
  have hof : ∀ n : Nat, 128 ≤ n → n < 256 → 128 ≤ (UInt8.ofNat n).toNat := fun n h1 h2 => by
    rw [UInt8.toNat_ofNat_of_lt' (by simpa using h2)]; exact h1
  unfold Utf8.encode
  obtain ⟨c, hc⟩ : ∃ c, (if Utf8.valid r = true then r.toNat else Utf8.runeError) = c := ⟨_, rfl⟩
  have hc128 : 128 ≤ c := by
    rw [← hc]
    split
    · omega
    · decide
  simp only [hc]
  have h0 : ¬ c < 128 := by omega
  simp only [if_neg h0]
  by_cases h1 : c < 2048
  · simp only [if_pos h1]
    exact ⟨1, by omega, by omega, rfl, hof _ (by omega) (by omega)⟩
  · simp only [if_neg h1]
    by_cases h2 : c < 65536
    · simp only [if_pos h2]
      exact ⟨2, by omega, by omega, rfl, hof _ (by omega) (by omega)⟩
    · simp only [if_neg h2]
      exact ⟨3, by omega, by omega, rfl, hof _ (by omega) (by omega)⟩

/-- What Op.next does, wherever the iterator lies. -/
theorem run_next_at (W : World) (N : Nat) (s : ByteArray) (pos : Nat) (ty : TypeId) (hN : W.heap[N]? = some (.stringIter s pos)) (h : pos < s.size) :
    (Instr.next (.pointer (some ⟨N, 0, none⟩)) true ty).run Tryz.prog W =
      .ok (.tuple #[.bool true, .int .i64 pos, .int .i32 (Utf8.decode s pos).1]) (setBlock W N (.stringIter s (pos + (Utf8.decode s pos).2))) := by
  have hlt := (Array.getElem?_eq_some_iff.1 hN).1
  simp [Instr.next, getObj, setObj, Sem.run, hN, h, goInt, Result.andThen, setBlock]

theorem run_next_stop (W : World) (N : Nat) (s : ByteArray) (pos : Nat) (ty : TypeId) (hN : W.heap[N]? = some (.stringIter s pos)) (h : ¬ pos < s.size) :
    (Instr.next (.pointer (some ⟨N, 0, none⟩)) true ty).run Tryz.prog W = .ok (.tuple #[.bool false]) W := by
  simp [Instr.next, getObj, Sem.run, hN, h, Result.andThen]

theorem signs_low (x : UInt8) (h : x ∈ (⟨#[61, 33, 94, 60, 62, 63, 45]⟩ : ByteArray).data.toList) : x.toNat < 128 := by
  simp at h
  rcases h with rfl | rfl | rfl | rfl | rfl | rfl | rfl <;> decide

set_option maxHeartbeats 4000000 in
set_option maxRecDepth 100000 in
theorem ixrune_err (w : World) :
    Calls Tryz.prog 107 #[.string ⟨#[61, 33, 94, 60, 62, 63, 45]⟩, .int .i32 65533] w fun e w' => e = .returned (.int .i64 (-1)) ∧ Grown w w' := by
  obtain ⟨s, hs⟩ : ∃ s : ByteArray, ⟨#[61, 33, 94, 60, 62, 63, 45]⟩ = s := ⟨_, rfl⟩
  have h7 : s.size = 7 := by rw [← hs]; rfl
  have hlow : ∀ (i : Nat) (h : i < s.size), (s[i]'h).toNat < 128 := by
    subst hs
    intro i h
    exact signs_low _ (List.getElem_mem (l := (⟨#[61, 33, 94, 60, 62, 63, 45]⟩ : ByteArray).data.toList) (n := i) h)
  rw [hs]
  clear hs
  go_enter Tryz.func107, Tryz.ntmps107
  go_wp2_with fail
  go_loopg [5, 6] 7 (fun g _ _ wx => ∃ i : Nat, i + g = 7 ∧ wx = w.iter s i)
  case atStart => exact ⟨0, by omega, rfl⟩
  case round =>
    obtain ⟨i, hig, rfl⟩ := hrel
    cases gk with
    | zero =>
      have hnx := fun ty => run_next_end (P := Tryz.prog) w s i ty (by omega)
      go_wp2_with fail
      go_ret
      exact ⟨rfl, (Grown.refl _).alloc _⟩
    | succ g =>
      have hi : i < s.size := by omega
      have hx := hlow i hi
      have hnx := fun ty => run_next_ascii (P := Tryz.prog) w s i ty hi hx
      have hne : (((s[i]'hi).toNat : Int) == 65533) = false := by simp; omega
      clear hlow
      go_wp2_with fail
      go_roundg g
      case measure => omega
      case rel => exact ⟨i + 1, by omega, rfl⟩

set_option maxHeartbeats 4000000 in
set_option maxRecDepth 100000 in
theorem ixrune_valid (r : Int) (h1 : 128 ≤ r) (h2 : r ≤ 2097151) (hv : Lib.validRune r = true) (hne : r ≠ 65533) (w : World) :
    Calls Tryz.prog 107 #[.string ⟨#[61, 33, 94, 60, 62, 63, 45]⟩, .int .i32 r] w fun e w' => e = .returned (.int .i64 (-1)) ∧ Grown w w' := by
  obtain ⟨m, hm1, hm3, hs, hb⟩ := enc_last r h1
  obtain ⟨pat, hpat⟩ : ∃ pat, Utf8.encode r = pat := ⟨_, rfl⟩
  simp only [hpat] at hs hb
  obtain ⟨b, hbe⟩ : ∃ b, pat[m]'(by omega) = b := ⟨_, rfl⟩
  rw [hbe] at hb
  have hz : (0 : Int) ≤ r := by omega
  have h128 : decide (r < 128) = false := decide_eq_false (by omega)
  have hne' : (r == 65533) = false := by simpa using hne
  have HV := hid hv
  obtain ⟨s, hse⟩ : ∃ s : ByteArray, ⟨#[61, 33, 94, 60, 62, 63, 45]⟩ = s := ⟨_, rfl⟩
  have h7 : s.size = 7 := by rw [← hse]; rfl
  have hlow : ∀ x ∈ s.data.toList, x.toNat < 128 := by subst hse; exact signs_low
  rw [hse]
  clear hv hne hse
  have hback : ((b.toNat : Int)).toNat.toUInt8 = b := by simp
  have HIX : Hid (∀ W k, Calls Tryz.prog 76 #[.string (s.extract k s.size), .int .u8 b.toNat] W fun e w' => e = .returned (.int .i64 (-1)) ∧ w' = W) := fun W k => by
    have := Tryz.strings_IndexByte (s.extract k s.size) b.toNat W
    rw [hback, ix_none (fun hc => by
      have hm : b ∈ s.data.toList := by
        have e : (s.extract k s.size).data.toList = s.data.toList.drop k := by
          have := ext_drop s k
          exact this
        rw [e] at hc
        exact List.mem_of_mem_drop hc
      have := hlow b hm
      omega)] at this
    exact this
  have hsm : m < s.size := by omega
  obtain ⟨c, hce⟩ : ∃ c, s[m]'hsm = c := ⟨_, rfl⟩
  have hc : c.toNat < 128 := by
    rw [← hce]
    exact hlow _ (List.getElem_mem (l := s.data.toList) (n := m) (by simpa using hsm))
  have hx : ((c.toNat : Int) != (b.toNat : Int)) = true := by simp; omega
  have hmz : (0 : Int) ≤ m := by omega
  have hms : (m : Int) < (s.size : Int) := by omega
  have hmp : (m : Int) < (pat.size : Int) := by omega
  have hpz : (pat.size : Int) - 1 = (m : Int) := by omega
  have hww : IntKind.i64.wrap ((m : Int) + 1) = (m : Int) + 1 := wrap_i64 _ (by omega) (by omega)
  have hm1s : (m : Int) + 1 ≤ (s.size : Int) := by omega
  have hm0z : (0 : Int) ≤ (m : Int) + 1 := by omega
  have hmt : ((m : Int) + 1).toNat = m + 1 := by omega
  have hmp2 : m < pat.size := by omega
  have hbe2 : pat[m]'hmp2 = b := hbe
  clear hbe
  clear h7 hs
  clear hlow
  go_enter Tryz.func107, Tryz.ntmps107
  go_wp2_with (first | (go_at_call 126; refine (Tryz.utf8_ValidRune _ _).mono ?_; rintro e w1 ⟨rfl, rfl⟩; rw [HV.out]))
  go_step3
  go_wp2_with fail
  refine wp_loop_rounds 1 ?_
  rw [rounds_succ]
  go_wp2_with fail
  go_step3
  go_wp2_with fail
  go_quiet (fail)
  go_wp2_with fail
  have hG2 := Grown.draws w1 nq
  generalize w1.drewN nq = W2 at hG2 ⊢
  go_quiet (first | (go_at_call 76; refine Calls.quiet_of_same (HIX.out _ _)))
  go_wp2_with fail
  repeat (first | rw [Exit.noGoto_ret] | simp only [Exit.inBlock, Exit.then])
  go_ret
  exact ⟨rfl, hG2.drewN _⟩

set_option maxHeartbeats 2000000 in
set_option maxRecDepth 100000 in
theorem ixrune_none (r : Int) (h1 : 128 ≤ r) (h2 : r ≤ 2097151) (w : World) :
    Calls Tryz.prog 107 #[.string ⟨#[61, 33, 94, 60, 62, 63, 45]⟩, .int .i32 r] w fun e w' => e = .returned (.int .i64 (-1)) ∧ Grown w w' := by
  by_cases hne : r = 65533
  · subst hne; exact ixrune_err w
  · cases hv : Lib.validRune r with
    | true => exact ixrune_valid r h1 h2 hv hne w
    | false =>
      have h128 : decide (r < 128) = false := decide_eq_false (by omega)
      have hz : (0 : Int) ≤ r := by omega
      have hne' : (r == 65533) = false := by simpa using hne
      have HV := hid hv
      clear hv hne
      go_enter Tryz.func107, Tryz.ntmps107
      go_wp2_with (first | (go_at_call 126; refine (Tryz.utf8_ValidRune _ _).mono ?_; rintro e w1 ⟨rfl, rfl⟩; rw [HV.out]))
      repeat (first | rw [Exit.noGoto_ret] | simp only [Exit.inBlock, Exit.then])
      go_ret
      exact ⟨rfl, Grown.refl _⟩

/-- The iterator of s stands at pos, in block N. -/
def ItAt (W : World) (N : Nat) (s : ByteArray) (pos : Nat) : Prop := W.heap[N]? = some (.stringIter s pos)

theorem it_step {w W : World} {s : ByteArray} {pos : Nat} (h : ItAt W w.heap.size s pos) (hb : Below w.heap.size w W) (p' : Nat) :
    ItAt (setBlock W w.heap.size (.stringIter s p')) w.heap.size s p' ∧ Below w.heap.size w (setBlock W w.heap.size (.stringIter s p')) := by
  have hlt := (Array.getElem?_eq_some_iff.1 h).1
  refine ⟨by unfold ItAt setBlock; simp [hlt], hb.os, hb.tape, hb.output, by simpa [setBlock] using hb.size, fun k hk => ?_⟩
  refine Eq.trans ?_ (hb.block k hk)
  show (W.heap.setIfInBounds w.heap.size _)[k]? = _
  rw [Array.getElem?_setIfInBounds, if_neg (by omega)]

set_option maxHeartbeats 4000000 in
set_option maxRecDepth 100000 in
theorem ixany_short (s : ByteArray) (w : World) (h8 : s.size ≤ 8) :
    Calls Tryz.prog 75 #[.string s, .string ⟨#[61, 33, 94, 60, 62, 63, 45]⟩] w fun e w' => (∃ k, e = .returned (.int .i64 k) ∧ FirstOp s.data.toList k) ∧ Below w.heap.size w w' := by
  have h8z : decide ((8 : Int) < (s.size : Int)) = false := decide_eq_false (by omega)
  obtain ⟨cs, hcs⟩ : ∃ cs : ByteArray, ⟨#[61, 33, 94, 60, 62, 63, 45]⟩ = cs := ⟨_, rfl⟩
  have HCS := hid hcs
  have hemp : cs.toList.isEmpty = false := sfull_of (by rw [← hcs]; decide)
  have hn1 : ((cs.size : Int) == 1) = false := by rw [← hcs]; rfl
  rw [hcs]
  clear hcs
  go_enter Tryz.func75, Tryz.ntmps75
  go_wp2_with (go_at_call 108; refine (Tryz.strings_shouldUseASCIISet _ _).mono ?_; rintro e w' ⟨rfl, hw⟩; rw [hw, h8z])
  go_loopg [9, 10] s.size (fun g _ _ wx => ∃ i : Nat, i ≤ s.size ∧ s.size - i ≤ g ∧ Hid (ItAt wx w.heap.size s i) ∧ Hid (Below w.heap.size w wx) ∧ Hid (∀ c ∈ s.data.toList.take i, isOp c = false))
  case atStart => exact ⟨0, by omega, by omega, World.iter_heap _ _ _, (Below.refl _ _).alloc (Nat.le_refl _) _, fun c hc => by simp at hc⟩
  case round =>
    obtain ⟨i, hi, hg, HI, HB, HN⟩ := hrel
    by_cases hlt : i < s.size
    · have hil : i < s.data.toList.length := by simpa using hlt
      have hnx := fun ty => run_next_at wr w.heap.size s i ty HI.out hlt
      obtain ⟨x, hx⟩ : ∃ x : UInt8, s[i]'hlt = x := ⟨_, rfl⟩
      have hxl : s.data.toList[i] = x := hx
      by_cases hx128 : x.toNat < 128
      · have hdec := decode_ascii s i hlt (by rw [hx]; exact hx128)
        rw [hx] at hdec
        rw [hdec] at hnx
        obtain ⟨hi2, hb2⟩ := it_step HI.out HB.out (i + 1)
        simp only at hnx
        obtain ⟨W1, hW1⟩ : ∃ W1, setBlock wr w.heap.size (.stringIter s (i + 1)) = W1 := ⟨_, rfl⟩
        rw [hW1] at hnx hi2 hb2
        have HI2 := hid hi2
        have HB2 := hid hb2
        have HXL := hid hxl
        have hback : ((x.toNat : Int)).toNat.toUInt8 = x := by simp
        have hcon := Lib.contains_iff_indexByte cs.data.toList x
        have e1 : cs.data.toList.contains x = isOp x := by rw [← HCS.out]; exact signs_op x
        rw [e1] at hcon
        cases hop : isOp x with
        | true =>
          rw [hop] at hcon
          have hge : (0 : Int) ≤ Lib.indexByte cs.data.toList x := of_decide_eq_true hcon.symm
          have HF : Hid (FirstOp s.data.toList (i : Int)) := Or.inr ⟨i, rfl, hil, by rw [hxl]; exact hop, HN.out⟩
          clear hcon e1 hxl hx hW1 hi2 hb2 hdec hop
          go_wp2_with (go_at_call 107; refine (Tryz.strings_IndexRune_ascii _ _ _ (by omega) (by omega)).mono ?_; rintro e w' ⟨rfl, hw⟩; rw [hw, hback])
          go_ret
          exact ⟨⟨_, rfl, HF.out⟩, HB2.out⟩
        | false =>
          rw [hop] at hcon
          have hge : ¬ ((0 : Int) ≤ Lib.indexByte cs.data.toList x) := of_decide_eq_false hcon.symm
          have HF : Hid (∀ c ∈ s.data.toList.take (i + 1), isOp c = false) := fun c hc => by
            rw [List.take_succ_eq_append_getElem hil, List.mem_append, List.mem_singleton] at hc
            rcases hc with hc | hc
            · exact HN.out c hc
            · rw [hc, hxl]; exact hop
          clear hcon e1 hxl hx hW1 hi2 hb2 hdec hop
          go_wp2_with (go_at_call 107; refine (Tryz.strings_IndexRune_ascii _ _ _ (by omega) (by omega)).mono ?_; rintro e w' ⟨rfl, hw⟩; rw [hw, hback])
          go_roundg (s.size - (i + 1))
          case measure => omega
          case rel => exact ⟨i + 1, by omega, by omega, HI2, HB2, HF⟩
      · obtain ⟨r1, r2, r3, r4, r5⟩ := dec_high s i hlt (by rw [hx]; omega)
        obtain ⟨hi2, hb2⟩ := it_step HI.out HB.out (i + (Utf8.decode s i).2)
        obtain ⟨r, hr⟩ : ∃ r, (Utf8.decode s i).1 = r := ⟨_, rfl⟩
        obtain ⟨k, hk⟩ : ∃ k, (Utf8.decode s i).2 = k := ⟨_, rfl⟩
        rw [hr, hk] at hnx
        rw [hr] at r1 r2
        rw [hk] at r3 r4 r5 hi2 hb2
        obtain ⟨W1, hW1⟩ : ∃ W1, setBlock wr w.heap.size (.stringIter s (i + k)) = W1 := ⟨_, rfl⟩
        rw [hW1] at hnx hi2 hb2
        have HF : Hid (∀ c ∈ s.data.toList.take (i + k), isOp c = false) := fun c hc => by
          obtain ⟨j, hj, rfl⟩ := List.mem_iff_getElem.1 hc
          rw [List.length_take] at hj
          rw [List.getElem_take]
          by_cases hji : j < i
          · exact HN.out _ (List.mem_iff_getElem.2 ⟨j, by rw [List.length_take]; omega, by rw [List.getElem_take]⟩)
          · have hjs : j < s.size := by have := hj; simp at this; omega
            have h128 := r5 j (by omega) (by omega)
            rw [get_at s j hjs] at h128
            have e : s.data.toList[j]'(by simpa using hjs) = s[j]'hjs := rfl
            rw [e]
            cases hop : isOp (s[j]'hjs) with
            | false => rfl
            | true => rcases op_sign hop with h | h | h | h | h | h | h <;> (rw [h] at h128; exact absurd h128 (by decide))
        have HIR : Hid (Calls Tryz.prog 107 #[.string cs, .int .i32 r] W1 fun e w' => e = .returned (.int .i64 (-1)) ∧ Grown W1 w') := by
          show Calls _ _ _ _ _
          rw [← HCS.out]
          exact ixrune_none r (by omega) (by omega) W1
        have HI2 := hid hi2
        have HB2 := hid hb2
        clear hxl hx hW1 hi2 hb2 hr hk r5
        go_wp2_with (go_at_call 107; refine HIR.out.mono ?_; rintro e w2 ⟨rfl, hg2⟩)
        go_roundg (s.size - (i + k))
        case measure => omega
        case rel => exact ⟨i + k, by omega, by omega, (hg2.below.block _ (Array.getElem?_eq_some_iff.1 HI2.out).1).trans HI2.out, bel_then HB2.out HB2.out.size hg2.below, HF⟩
    · have hi' : i = s.size := by omega
      have hnx := fun ty => run_next_stop wr w.heap.size s i ty HI.out hlt
      have HF : Hid (FirstOp s.data.toList (-1)) := Or.inl ⟨rfl, fun c hc => HN.out c (by rw [List.take_of_length_le (by simp; omega)]; exact hc)⟩
      go_wp2_with fail
      go_ret
      exact ⟨⟨_, rfl, HF.out⟩, HB.out⟩

theorem ixany_any (s : ByteArray) (w : World) (hs : s.size ≤ 4294967000) :
    Calls Tryz.prog 75 #[.string s, .string ⟨#[61, 33, 94, 60, 62, 63, 45]⟩] w fun e w' => (∃ k, e = .returned (.int .i64 k) ∧ FirstOp s.data.toList k) ∧ Below w.heap.size w w' := by
  by_cases h8 : s.size ≤ 8
  · exact ixany_short s w h8
  · refine (Tryz.strings_IndexAny_long (fun _ => by kernel_rfl) s ⟨#[61, 33, 94, 60, 62, 63, 45]⟩ w (by decide) (by omega) (by omega) (by decide) (fun j b hb => signs_low b (List.mem_of_getElem? hb))).mono ?_
    rintro e w' ⟨rfl, rfl⟩
    exact ⟨⟨_, rfl, indexAny_first _⟩, ((Below.refl _ _).alloc (Nat.le_refl _) _).alloc (by simp) _⟩

end Go.Proofs.YtfcjnoojcajljaaGreatDoor

/-
  The contract of term: what a word says.
-/
namespace Go.Proofs.YtfcjnoojcajljaaGreatDoor
open Go.RowKit Go.Lib

theorem box_put {W : World} {R : Nat} {x : Tm} (h : BoxM W R x) (y : Tm) :
    BoxM (((W.setCell ⟨R, 0, none⟩ (.string y.1)).setCell ⟨R, 1, none⟩ (.int .i64 y.2.1)).setCell ⟨R, 2, none⟩ (.string y.2.2)) R y :=
  heap_setCell_same _ R 2 _ _ _ (heap_setCell_same _ R 1 _ _ _ (heap_setCell_same W R 0 _ _ _ h))

theorem box_free {W : World} {R : Nat} {x : Tm} (h : BoxM W R x) : W.frozen? ⟨R, 0, none⟩ = false ∧ W.frozen? ⟨R, 1, none⟩ = false ∧ W.frozen? ⟨R, 2, none⟩ = false :=
  ⟨Lib.frozen_of_heap h 0, Lib.frozen_of_heap h 1, Lib.frozen_of_heap h 2⟩

theorem bel_put {B R : Nat} {w W : World} (h : Below B w W) (hR : B ≤ R) (y : Tm) : Below B w (((W.setCell ⟨R, 0, none⟩ (.string y.1)).setCell ⟨R, 1, none⟩ (.int .i64 y.2.1)).setCell ⟨R, 2, none⟩ (.string y.2.2)) :=
  ((h.setCell (p := ⟨R, 0, none⟩) hR _).setCell (p := ⟨R, 1, none⟩) hR _).setCell (p := ⟨R, 2, none⟩) hR _

theorem readL_cons {c : UInt8} {r t : List UInt8} (h : readL (c :: r) = some t) : t ≠ [] := by
  cases hf : firstP (c :: r) with
  | none => rw [readL_none (by simp) hf] at h; cases h
  | some o =>
    obtain ⟨c', n⟩ := o
    rw [readL_some hf] at h
    cases hr : readL ((c :: r).drop n) with
    | none => rw [hr] at h; cases h
    | some m =>
      rw [hr] at h
      rintro rfl
      cases h

theorem ix_sign {c : UInt8} (h : isOp c = true) : Lib.indexByte (⟨#[61, 33, 94, 60, 62, 63, 45]⟩ : ByteArray).data.toList c = opN (c.toNat : Int) - 1 := by
  rcases op_sign h with rfl | rfl | rfl | rfl | rfl | rfl | rfl <;> decide

theorem op_pos {c : UInt8} (h : isOp c = true) : 1 ≤ opN (c.toNat : Int) ∧ opN (c.toNat : Int) ≤ 7 := by
  have h1 := opN_range (c.toNat : Int)
  have h2 : opN (c.toNat : Int) ≠ 0 := by unfold isOp at h; exact bne_iff_ne.1 h
  omega

/-- What a word with a sign says. -/
theorem termO_at {l : List UInt8} {i : Nat} (hi : i < l.length) (h1 : isOp l[i] = true) (h2 : ∀ c ∈ l.take i, isOp c = false) :
    termO l = match readL (l.drop (i + 1)) with
      | none => none
      | some t => if rightM (⟨(l.take i).toArray⟩, opN (l[i].toNat : Int), ⟨t.toArray⟩) = true then some (⟨(l.take i).toArray⟩, opN (l[i].toNat : Int), ⟨t.toArray⟩) else none := by
  obtain ⟨e1, e2⟩ := op_split hi h2 h1
  unfold termO
  rw [e2]
  simp only
  cases hr : readL (l.drop (i + 1)) with
  | none => rfl
  | some t =>
    simp only
    rw [e1]
    obtain ⟨o1, o2⟩ := op_pos h1
    have hz : (⟨t.toArray⟩ : ByteArray).size = 0 ↔ t = [] := by
      show t.toArray.size = 0 ↔ _
      simp
    have hne : l.drop (i + 1) ≠ [] ↔ t ≠ [] := by
      cases hd : l.drop (i + 1) with
      | nil => rw [hd, readL_nil] at hr; cases hr; simp
      | cons c r => rw [hd] at hr; exact ⟨fun _ => readL_cons hr, fun _ => by simp⟩
    by_cases h5 : 5 < opN (l[i].toNat : Int)
    · by_cases ht : t = []
      · have : rightM (⟨(l.take i).toArray⟩, opN (l[i].toNat : Int), ⟨t.toArray⟩) = true := by
          unfold rightM
          simp only [decide_eq_true o1, decide_eq_true o2, decide_eq_true (hz.2 ht), Bool.true_and, Bool.or_true]
        rw [if_neg (fun h => (hne.1 h.2) ht), if_pos this]
      · have : rightM (⟨(l.take i).toArray⟩, opN (l[i].toNat : Int), ⟨t.toArray⟩) = false := by
          unfold rightM
          have e3 : decide (opN (l[i].toNat : Int) < 6) = false := decide_eq_false (by omega)
          have e4 : decide ((⟨t.toArray⟩ : ByteArray).size = 0) = false := decide_eq_false (fun h => ht (hz.1 h))
          simp only [e3, e4, Bool.or_false, Bool.and_false]
        rw [if_pos ⟨h5, hne.2 ht⟩, if_neg (by rw [this]; simp)]
    · have : rightM (⟨(l.take i).toArray⟩, opN (l[i].toNat : Int), ⟨t.toArray⟩) = true := by
        unfold rightM
        have e3 : decide (opN (l[i].toNat : Int) < 6) = true := decide_eq_true (by omega)
        simp only [decide_eq_true o1, decide_eq_true o2, e3, Bool.true_and, Bool.true_or]
      rw [if_neg (fun h => h5 h.1), if_pos this]

theorem FirstOp.uniq {l : List UInt8} {a b : Int} (ha : FirstOp l a) (hb : FirstOp l b) : a = b := by
  rcases ha with ⟨rfl, h1⟩ | ⟨i, rfl, hi, h1, h2⟩
  · rcases hb with ⟨rfl, _⟩ | ⟨j, rfl, hj, h3, _⟩
    · rfl
    · rw [h1 _ (List.getElem_mem hj)] at h3; cases h3
  · rcases hb with ⟨rfl, h3⟩ | ⟨j, rfl, hj, h3, h4⟩
    · rw [h3 _ (List.getElem_mem hi)] at h1; cases h1
    · rcases Nat.lt_trichotomy i j with h | h | h
      · rw [h4 _ (List.mem_iff_getElem.2 ⟨i, by rw [List.length_take]; omega, by rw [List.getElem_take]⟩)] at h1; cases h1
      · rw [h]
      · rw [h2 _ (List.mem_iff_getElem.2 ⟨j, by rw [List.length_take]; omega, by rw [List.getElem_take]⟩)] at h3; cases h3

theorem ixany_at {s : ByteArray} {k : Int} (h : FirstOp s.data.toList k) (w : World) (hs : s.size ≤ 4294967000) :
    Calls Tryz.prog 75 #[.string s, .string ⟨#[61, 33, 94, 60, 62, 63, 45]⟩] w fun e w' => e = .returned (.int .i64 k) ∧ Below w.heap.size w w' :=
  (ixany_any s w hs).mono fun _ _ ⟨⟨k', h1, h2⟩, h3⟩ => ⟨by rw [h1, h.uniq h2], h3⟩

/-- What term answers. -/
def termV (o : Option Tm) : Value := match o with
  | none => .tuple #[.agg #[.string ⟨#[]⟩, .int .i64 0, .string ⟨#[]⟩], .int .i64 4]
  | some x => .tuple #[.agg #[.string x.1, .int .i64 x.2.1, .string x.2.2], .int .i64 0]

set_option maxHeartbeats 4000000 in
set_option maxRecDepth 100000 in
theorem term_any (s : ByteArray) (w : World) (hp : PlainAt w) (hs : s.size ≤ 4294967000) :
    Calls Tryz.prog 45 #[.string s] w fun e w' => e = .returned (termV (termO s.data.toList)) ∧ Below w.heap.size w w' := by
  obtain ⟨W0, hW0⟩ : ∃ W0, w.alloc (.cells #[.string ⟨#[]⟩, .int .i64 0, .string ⟨#[]⟩] 39) = W0 := ⟨_, rfl⟩
  obtain ⟨R, hR⟩ : ∃ R, w.heap.size = R := ⟨_, rfl⟩
  have hb0 : Below R w W0 := by rw [← hW0, ← hR]; exact (Below.refl _ _).alloc (Nat.le_refl _) _
  have hx0 : BoxM W0 R (⟨#[]⟩, 0, ⟨#[]⟩) := by rw [← hW0, ← hR]; exact boxM_new w (⟨#[]⟩, 0, ⟨#[]⟩)
  have hRl : R < W0.heap.size := hx0.lt
  have HP := hid (show PlainAt W0 from hp.on (by rw [hR]; exact hb0))
  have HB0 := hid hb0
  have HX0 := hid hx0
  obtain ⟨V, hV⟩ : ∃ V, termV (termO s.data.toList) = V := ⟨_, rfl⟩
  have HV := hid hV
  rw [hV, hR]
  clear hp hb0 hx0 hV
  have KR : Hid (∀ W, Below W0.heap.size W0 W → BoxM W R (⟨#[]⟩, 0, ⟨#[]⟩)) := fun W h => HX0.out.on h
  have KZ : Hid (∀ W, Below W0.heap.size W0 W → Below R w W) := fun W h => HB0.out.trans (h.mono (Nat.le_of_lt hRl))
  rcases indexAny_first s.data.toList with hk | ⟨i, hki, hi, h1, h2⟩
  · have HX := hid (ixany_at (Or.inl ⟨rfl, hk.2⟩) W0 hs)
    have HO : Hid (V = .tuple #[.agg #[.string ⟨#[]⟩, .int .i64 0, .string ⟨#[]⟩], .int .i64 4]) := by
      show _ = _
      rw [← HV.out, op_none hk.2]
      rfl
    clear hk
    go_enter Tryz.func45, Tryz.ntmps45
    go_wp2_with (first | (go_at_call 75; refine HX.out.mono ?_; rintro e w1 ⟨rfl, hb1⟩; have hx1 := KR.out _ hb1; obtain ⟨k0, k1, k2⟩ := hx1.cells; obtain ⟨f0, f1, f2⟩ := box_free hx1; simp only at k0 k1 k2; have HX1 := hid hx1; clear hx1))
    obtain ⟨j0, j1, j2⟩ := (box_put HX1.out (⟨#[]⟩, 0, ⟨#[]⟩)).cells
    simp only at j0 j1 j2
    exact bodyPost_ret (v := .tuple #[.agg #[.string ⟨#[]⟩, .int .i64 0, .string ⟨#[]⟩], .int .i64 4]) (by simp [results, Tryz.results45, go_sem, j0, j1, j2]) rfl ⟨by rw [HO.out], bel_put (KZ.out _ hb1) (Nat.le_refl _) (⟨#[]⟩, 0, ⟨#[]⟩)⟩
  · have HX := hid (ixany_at (Or.inr ⟨i, rfl, hi, h1, h2⟩) W0 hs)
    have HT := hid (termO_at hi h1 h2)
    have his : i < s.size := by simpa using hi
    obtain ⟨c, hc⟩ : ∃ c, s[i]'his = c := ⟨_, rfl⟩
    have hcl : s.data.toList[i] = c := hc
    rw [hcl] at HT h1
    have hix := ix_sign h1
    obtain ⟨o1, o2⟩ := op_pos h1
    obtain ⟨o, ho⟩ : ∃ o, opN (c.toNat : Int) = o := ⟨_, rfl⟩
    rw [ho] at hix o1 o2 HT
    have hback : ((c.toNat : Int)).toNat.toUInt8 = c := by simp
    have HIX : Hid (∀ W, Calls Tryz.prog 76 #[.string ⟨#[61, 33, 94, 60, 62, 63, 45]⟩, .int .u8 c.toNat] W fun e w' => e = .returned (.int .i64 (o - 1)) ∧ w' = W) := fun W => by
      have := Tryz.strings_IndexByte ⟨#[61, 33, 94, 60, 62, 63, 45]⟩ c.toNat W
      rw [hback, hix] at this
      exact this
    have hw1 : IntKind.i64.wrap (1 + (o - 1)) = o := by rw [show 1 + (o - 1) = o by omega]; exact wrap_i64 _ (by omega) (by omega)
    have hiz : (0 : Int) ≤ i := by omega
    have hiz2 : (i : Int) < (s.size : Int) := by omega
    have hiz3 : (i : Int) + 1 ≤ (s.size : Int) := by omega
    have hiz4 : (0 : Int) ≤ (i : Int) + 1 := by omega
    have hit : ((i : Int) + 1).toNat = i + 1 := by omega
    have hnn : ¬ ((i : Int) < 0) := by omega
    have HRD : Hid (∀ W, PlainAt W → Calls Tryz.prog 77 #[.string (s.extract (i + 1) s.size)] W fun e w' => e = .returned (readV (readL (s.data.toList.drop (i + 1)))) ∧ Below W.heap.size W w') := fun W h => by
      have := read_any (s.extract (i + 1) s.size) W h (by simp; omega)
      rwa [ext_drop] at this
    have HE := hid (ext_take s i)
    clear hcl hix ho hki hi h2 h1
    cases hrd : readL (s.data.toList.drop (i + 1)) with
    | none =>
      rw [hrd] at HRD HT
      have HO : Hid (V = .tuple #[.agg #[.string ⟨#[]⟩, .int .i64 0, .string ⟨#[]⟩], .int .i64 4]) := by
        show _ = _
        rw [← HV.out, HT.out]
        rfl
      simp only [readV] at HRD
      go_enter Tryz.func45, Tryz.ntmps45
      go_wp2_with (first
        | (go_at_call 75; refine HX.out.mono ?_; rintro e w1 ⟨rfl, hb1⟩)
        | (go_at_call 76; refine (HIX.out _).mono ?_; rintro e w1' ⟨rfl, hw'⟩; rw [hw'])
        | (go_at_call 77; refine (HRD.out w1 (HP.out.on hb1)).mono ?_; rintro e w2 ⟨rfl, hb2⟩; have hb12 : Below W0.heap.size W0 (w2.alloc (.cells #[.string (s.extract 0 i), .int .i64 o, .string ⟨#[]⟩] 39)) := (bel_then hb1 hb1.size hb2).alloc (Nat.le_trans hb1.size hb2.size) _; have hx1 := KR.out _ hb12; obtain ⟨k0, k1, k2⟩ := hx1.cells; obtain ⟨f0, f1, f2⟩ := box_free hx1; simp only at k0 k1 k2; have HX1 := hid hx1; clear hx1))
      obtain ⟨j0, j1, j2⟩ := (box_put HX1.out (⟨#[]⟩, 0, ⟨#[]⟩)).cells
      simp only at j0 j1 j2
      exact bodyPost_ret (v := .tuple #[.agg #[.string ⟨#[]⟩, .int .i64 0, .string ⟨#[]⟩], .int .i64 4]) (by simp [results, Tryz.results45, go_sem, j0, j1, j2]) rfl ⟨by rw [HO.out], bel_put (KZ.out _ hb12) (Nat.le_refl _) (⟨#[]⟩, 0, ⟨#[]⟩)⟩
    | some t =>
      rw [hrd] at HRD HT
      simp only [readV] at HRD
      rw [← HE.out] at HT
      have HU : Hid (∀ W, Calls Tryz.prog 31 #[.agg #[.string (s.extract 0 i), .int .i64 o, .string ⟨t.toArray⟩]] W fun e w' => e = .returned (.bool (!rightM (s.extract 0 i, o, ⟨t.toArray⟩))) ∧ Grown W w') := fun W => punm_any (s.extract 0 i, o, ⟨t.toArray⟩) W
      have KF : Hid (∀ w2 w4 : World, Below W0.heap.size W0 w2 → Grown (w2.alloc (.cells #[.string (s.extract 0 i), .int .i64 o, .string ⟨t.toArray⟩] 39)) w4 → BoxM w4 w2.heap.size (s.extract 0 i, o, ⟨t.toArray⟩) ∧ Below W0.heap.size W0 w4) := fun w2 w4 h hg =>
        ⟨(boxM_new w2 (s.extract 0 i, o, ⟨t.toArray⟩)).on hg.below, bel_then (h.alloc h.size _) (h.alloc h.size _).size hg.below⟩
      cases hrt : rightM (s.extract 0 i, o, ⟨t.toArray⟩) with
      | false =>
        rw [hrt] at HU
        have HO : Hid (V = .tuple #[.agg #[.string ⟨#[]⟩, .int .i64 0, .string ⟨#[]⟩], .int .i64 4]) := by
          show _ = _
          rw [← HV.out, HT.out]
          simp only [hrt]
          rfl
        go_enter Tryz.func45, Tryz.ntmps45
        go_wp2_with (first
          | (go_at_call 75; refine HX.out.mono ?_; rintro e w1 ⟨rfl, hb1⟩)
          | (go_at_call 76; refine (HIX.out _).mono ?_; rintro e w1' ⟨rfl, hw'⟩; rw [hw'])
          | (go_at_call 77; refine (HRD.out w1 (HP.out.on hb1)).mono ?_; rintro e w2 ⟨rfl, hb2⟩; have hb12 : Below W0.heap.size W0 w2 := bel_then hb1 hb1.size hb2)
          | (go_at_call 31; refine (HU.out _).mono ?_; rintro e w4 ⟨rfl, hg4⟩; obtain ⟨hbx, hb4⟩ := KF.out _ _ hb12 hg4; have hx1 := KR.out _ hb4; obtain ⟨k0, k1, k2⟩ := hx1.cells; obtain ⟨f0, f1, f2⟩ := box_free hx1; simp only at k0 k1 k2; have HX1 := hid hx1; clear hx1 hbx))
        obtain ⟨j0, j1, j2⟩ := (box_put HX1.out (⟨#[]⟩, 0, ⟨#[]⟩)).cells
        simp only at j0 j1 j2
        exact bodyPost_ret (v := .tuple #[.agg #[.string ⟨#[]⟩, .int .i64 0, .string ⟨#[]⟩], .int .i64 4]) (by simp [results, Tryz.results45, go_sem, j0, j1, j2]) rfl ⟨by rw [HO.out], bel_put (KZ.out _ hb4) (Nat.le_refl _) (⟨#[]⟩, 0, ⟨#[]⟩)⟩
      | true =>
        rw [hrt] at HU
        have HO : Hid (V = .tuple #[.agg #[.string (s.extract 0 i), .int .i64 o, .string ⟨t.toArray⟩], .int .i64 0]) := by
          show _ = _
          rw [← HV.out, HT.out]
          simp only [hrt]
          rfl
        go_enter Tryz.func45, Tryz.ntmps45
        go_wp2_with (first
          | (go_at_call 75; refine HX.out.mono ?_; rintro e w1 ⟨rfl, hb1⟩)
          | (go_at_call 76; refine (HIX.out _).mono ?_; rintro e w1' ⟨rfl, hw'⟩; rw [hw'])
          | (go_at_call 77; refine (HRD.out w1 (HP.out.on hb1)).mono ?_; rintro e w2 ⟨rfl, hb2⟩; have hb12 : Below W0.heap.size W0 w2 := bel_then hb1 hb1.size hb2)
          | (go_at_call 31; refine (HU.out _).mono ?_; rintro e w4 ⟨rfl, hg4⟩; obtain ⟨hbx, hb4⟩ := KF.out _ _ hb12 hg4; obtain ⟨g0, g1, g2⟩ := hbx.cells; have hx1 := KR.out _ hb4; obtain ⟨k0, k1, k2⟩ := hx1.cells; obtain ⟨f0, f1, f2⟩ := box_free hx1; simp only at k0 k1 k2 g0 g1 g2; have HX1 := hid hx1; clear hx1 hbx))
        obtain ⟨j0, j1, j2⟩ := (box_put HX1.out (s.extract 0 i, o, ⟨t.toArray⟩)).cells
        simp only at j0 j1 j2
        exact bodyPost_ret (v := .tuple #[.agg #[.string (s.extract 0 i), .int .i64 o, .string ⟨t.toArray⟩], .int .i64 0]) (by simp [results, Tryz.results45, go_sem, j0, j1, j2]) rfl ⟨by rw [HO.out], bel_put (KZ.out _ hb4) (Nat.le_refl _) (s.extract 0 i, o, ⟨t.toArray⟩)⟩

end Go.Proofs.YtfcjnoojcajljaaGreatDoor

/-
  What ValueKeeps makes and writes: rows with spare room, and fields that are written over.
-/
namespace Go.Proofs.YtfcjnoojcajljaaGreatDoor
open Go.RowKit Go.Lib

theorem Tryz.infoTs : (Tryz.prog.info? 41).map (fun i => (i.zero, i.size, i.bytes)) = some (some (.slice none 0 0), 1, 24) := by kernel_rfl

def markA : ByteArray := ⟨#[109, 97, 114, 107]⟩

/-- The texts of x lie in a block of their own at or behind N, with two cells of spare room: the mark, and nothing. -/
def RoomAt (N : Nat) (W : World) (x : Fx) : Prop :=
  ∃ g, x.p = some ⟨g, 0, none⟩ ∧ x.cap = x.txt.length + 2 ∧ N ≤ g ∧ W.heap[g]? = some (.cells (x.txt.map Value.string ++ [Value.string markA, Value.string ⟨#[]⟩]).toArray 9 (0, 0))

theorem RoomAt.on {N : Nat} {W W' : World} {x : Fx} (h : RoomAt N W x) (hb : Below W.heap.size W W') : RoomAt N W' x := by
  obtain ⟨g, h1, h2, h3, h4⟩ := h
  exact ⟨g, h1, h2, h3, (hb.block g (Array.getElem?_eq_some_iff.1 h4).1).trans h4⟩

theorem RoomAt.else {N m0 : Nat} {W W' : World} {x : Fx} {e : TypeId} {size : Nat} {u : Value} {m : Nat} {ys : List Value} (h : RoomAt N W x) (hu : W.ownsRow m0 e size u m ys) (hne : e ≠ 9) (hg : W.grownBy W' u.ownBlock) : RoomAt N W' x := by
  obtain ⟨g, h1, h2, h3, h4⟩ := h
  refine ⟨g, h1, h2, h3, (hg.block g (Array.getElem?_eq_some_iff.1 h4).1 fun e2 => ?_).trans h4⟩
  obtain ⟨cs', h5⟩ := own_type hu e2.symm
  rw [h4] at h5
  injection h5 with h5
  injection h5 with _ h5
  exact hne h5.symm

theorem RoomAt.at {N : Nat} {W : World} {x : Fx} (h : RoomAt N W x) : x.at W := by
  obtain ⟨g, h1, _, _, h4⟩ := h
  refine Or.inr ⟨g, 0, h1, fun i hi => ?_⟩
  rw [Nat.zero_add, cell_of_row W g i _ _ _ h4]
  simp [List.getElem?_append, hi]

theorem RoomAt.mark {N : Nat} {W : World} {x : Fx} (h : RoomAt N W x) : ∃ g, x.p = some ⟨g, 0, none⟩ ∧ x.cap = x.txt.length + 2 ∧ W.cell? ⟨g, x.txt.length, none⟩ = some (.string markA) := by
  obtain ⟨g, h1, h2, _, h4⟩ := h
  refine ⟨g, h1, h2, ?_⟩
  rw [cell_of_row W g _ _ _ _ h4]
  simp

/-- What the first loop has made. -/
structure Ins (w : World) (e : List Fx) (vi vr : Value) (W : World) : Prop where
  row : RowX w.heap.size W vi e
  rooms : W.ownsRow w.heap.size 41 1 vr e.length (e.map Fx.sl)
  each : ∀ x ∈ e, RoomAt w.heap.size W x
  bel : Below w.heap.size w W

theorem Ins.on {w W W' : World} {e : List Fx} {vi vr : Value} (h : Ins w e vi vr W) (hb : Below W.heap.size W W') : Ins w e vi vr W' :=
  ⟨own_on h.row hb, own_on h.rooms hb, fun x hx => (h.each x hx).on hb, h.bel.trans (hb.mono h.bel.size)⟩

theorem Ins.is {w W : World} {e : List Fx} {vi vr : Value} (h : Ins w e vi vr W) : IsXs W vi e := h.row.is fun x hx => (h.each x hx).at

/-- The cells of a new room, the texts copied and the mark set. -/
theorem room_cells (ts : List ByteArray) : ((splice (List.replicate (ts.length + 2) (Value.string ⟨#[]⟩)) 0 (ts.map Value.string)).toArray.setIfInBounds ts.length (.string markA)) = (ts.map Value.string ++ [Value.string markA, Value.string ⟨#[]⟩]).toArray := by
  apply Array.toList_inj.1
  rw [Array.toList_setIfInBounds]
  simp only [splice, List.take_zero, List.nil_append, List.length_map, Nat.zero_add, List.drop_replicate]
  rw [show ts.length + 2 - ts.length = 2 by omega, List.set_append_right _ _ (by simp)]
  simp

theorem made_strs (n : Nat) : madeCells (Value.string ⟨#[]⟩).cells ((n + 2) * 1) = (List.replicate (n + 2) (Value.string ⟨#[]⟩)).toArray := by
  apply Array.toList_inj.1
  apply List.ext_getElem
  · simp [madeCells]
  · intro i h1 h2
    simp [madeCells, Value.cells]
    rw [Nat.mod_one]
    rfl

theorem own_same {w w' : World} {n0 : Nat} {e : TypeId} {size : Nat} {v : Value} {n : Nat} {xs : List Value} (h : w.ownsRow n0 e size v n xs) (hk : ∀ k, v.ownBlock = some k → w'.heap[k]? = w.heap[k]?) : w'.ownsRow n0 e size v n xs := by
  refine ⟨h.1, ?_⟩
  rcases h.2 with h2 | ⟨g, cap, cur, hv, h3, h4, h5⟩
  · exact Or.inl h2
  · exact Or.inr ⟨g, cap, cur, hv, h3, (hk g (by rw [hv]; rfl)).trans h4, h5⟩

/-- Blocks ahead of A, and from B up to C, are as they were. -/
structure KeptZ (A B C : Nat) (we W : World) : Prop where
  os : W.os = we.os
  tape : W.tape = we.tape
  output : W.output = we.output
  size : C ≤ W.heap.size
  block : ∀ k, k < C → (k < A ∨ B ≤ k) → W.heap[k]? = we.heap[k]?

def ZoneV (B C : Nat) (v : Value) : Prop := ∀ k, v.ownBlock = some k → k < B ∨ C ≤ k

theorem KeptZ.grown {A B C : Nat} {we W W' : World} {ob : Option Nat} (h : KeptZ A B C we W) (hg : W.grownBy W' ob) (hz : ∀ k, ob = some k → A ≤ k ∧ (k < B ∨ C ≤ k)) : KeptZ A B C we W' :=
  ⟨hg.os.trans h.os, hg.tape.trans h.tape, hg.output.trans h.output, Nat.le_trans h.size hg.size, fun k hk hz2 => (hg.block k (Nat.lt_of_lt_of_le hk h.size) fun e => by
    have := hz k e.symm
    omega).trans (h.block k hk hz2)⟩

theorem grown_alloc (w : World) (o : Obj) : w.grownBy (w.alloc o) none := by
  have := (Below.refl w.heap.size w).alloc (Nat.le_refl _) o
  exact ⟨this.os, this.tape, this.output, this.size, fun k hk _ => this.block k hk⟩

theorem KeptZ.below {A B C : Nat} {we W : World} (h : KeptZ A B C we W) (hAC : A ≤ C) (hC : we.heap.size ≤ C) : Below A we W :=
  ⟨h.os, h.tape, h.output, Nat.le_trans hC h.size, fun k hk => h.block k (by omega) (Or.inl hk)⟩

/-- The fields o, written over in place. -/
structure XSt (A B C : Nat) (we : World) (u : Value) (o : List Fx) (W : World) : Prop where
  own : OwnJ A W u o
  zu : ZoneV B C u
  zo : ∀ x ∈ o, ZoneV B C x.sl
  kept : KeptZ A B C we W

theorem cellsX_set (o : List Fx) (i : Nat) (h : i < o.length) (x : Fx) : cellsX (o.set i x) = ((cellsX o).set (i * 2) (.string x.name)).set (i * 2 + 1) x.sl := by
  induction o generalizing i with
  | nil => simp at h
  | cons y o ih =>
    have e : ∀ z l, cellsX (z :: l) = .string z.name :: z.sl :: cellsX l := fun _ _ => rfl
    cases i with
    | zero => rw [List.set_cons_zero, e, e]; rfl
    | succ i =>
      rw [List.set_cons_succ, e, e, ih i (by simpa using h), show (i + 1) * 2 = i * 2 + 1 + 1 by omega]
      rfl

theorem apart_ne {o : List Fx} (h : Apart o) {i j : Nat} (hi : i < o.length) (hj : j < o.length) (hne : i ≠ j) : (o[i]).sl.ownBlock = none ∨ (o[i]).sl.ownBlock ≠ (o[j]).sl.ownBlock := by
  have hp := List.pairwise_iff_getElem.1 h
  rcases Nat.lt_or_gt_of_ne hne with hl | hl
  · exact hp i j hi hj hl
  · rcases hp j i hj hi hl with h1 | h1
    · rcases hb : (o[i]).sl.ownBlock with _ | k
      · exact Or.inl rfl
      · right; rw [h1]; simp
    · exact Or.inr (Ne.symm h1)

theorem apart_set {o : List Fx} (h : Apart o) {i : Nat} (_hi : i < o.length) {x : Fx} (hx : ∀ j, (hj : j < o.length) → j ≠ i → (o[j]).sl.ownBlock = none ∨ (o[j]).sl.ownBlock ≠ x.sl.ownBlock) : Apart (o.set i x) := by
  have hp := List.pairwise_iff_getElem.1 h
  refine List.pairwise_iff_getElem.2 fun a b ha hb hab => ?_
  rw [List.length_set] at ha hb
  rw [List.getElem_set, List.getElem_set]
  by_cases h1 : i = a
  · subst h1
    rw [if_pos rfl, if_neg (by omega)]
    rcases hx b hb (by omega) with h2 | h2
    · rcases hq : x.sl.ownBlock with _ | k
      · exact Or.inl rfl
      · right; rw [h2]; simp
    · exact Or.inr (Ne.symm h2)
  · rw [if_neg h1]
    by_cases h2 : i = b
    · subst h2
      rw [if_pos rfl]
      exact hx a ha (by omega)
    · rw [if_neg h2]
      exact hp a b ha hb hab

/-- The row of fields u has its block. -/
theorem XSt.shape {A B C : Nat} {we W : World} {u : Value} {o : List Fx} (h : XSt A B C we u o W) (hpos : 0 < o.length) : ∃ g c, u = .slice (some ⟨g, 0, none⟩) o.length c := by
  rcases h.own.1.1.2 with ⟨_, h0⟩ | ⟨g, c, cur, hv, _⟩
  · omega
  · exact ⟨g, c, hv⟩

/-- What can be read of the field i, and that it can be written. -/
theorem XSt.cells {A B C : Nat} {we W : World} {g c n : Nat} {o : List Fx} (h : XSt A B C we (.slice (some ⟨g, 0, none⟩) n c) o W) (hn : o.length = n) {i : Nat} (hi : i < o.length) :
    W.cell? ⟨g, i * 2, none⟩ = some (.string (o[i]).name) ∧ W.cell? ⟨g, i * 2 + 1, none⟩ = some (o[i]).sl ∧ W.frozen? ⟨g, i * 2, none⟩ = false ∧ W.frozen? ⟨g, i * 2 + 1, none⟩ = false := by
  subst hn
  have hrow := h.own.1.1
  obtain ⟨h1, h2⟩ := cellsX_get o i hi
  exact ⟨by rw [hrow.cellAt _ (by omega)]; exact h1, by rw [hrow.cellAt _ (by omega)]; exact h2, hrow.frozenAt _, hrow.frozenAt _⟩

theorem sl_lt {A : Nat} {W : World} {x : Fx} (h : OwnT A W x.sl x.txt) : ∀ k, x.sl.ownBlock = some k → A ≤ k := fun k hk => (World.ownsRow.lt h k hk).1

/-- One text is written over. -/
theorem XSt.wipe {A B C : Nat} {we W : World} {u : Value} {o : List Fx} (h : XSt A B C we u o W) {i : Nat} (hi : i < o.length) {j gt : Nat} (hp : (o[i]).p = some ⟨gt, 0, none⟩) (t : ByteArray) :
    XSt A B C we u (o.set i ⟨(o[i]).name, (o[i]).p, (o[i]).cap, (o[i]).txt.set j t⟩) (W.setCell ⟨gt, j, none⟩ (.string t)) := by
  have hti := h.own.1.2 _ (List.getElem_mem hi)
  have hbi : (o[i]).sl.ownBlock = some gt := by unfold Fx.sl; rw [hp]; rfl
  have hg : W.grownBy (W.setCell ⟨gt, j, none⟩ (.string t)) (o[i]).sl.ownBlock := by rw [hbi]; exact grown_set W gt j _
  have hsl : (⟨(o[i]).name, (o[i]).p, (o[i]).cap, (o[i]).txt.set j t⟩ : Fx).sl = (o[i]).sl := by unfold Fx.sl; simp
  have hnew : OwnT A (W.setCell ⟨gt, j, none⟩ (.string t)) (o[i]).sl ((o[i]).txt.set j t) := by
    have e : (o[i]).sl = .slice (some ⟨gt, 0, none⟩) (o[i]).txt.length (o[i]).cap := by unfold Fx.sl; rw [hp]
    have h1 : W.ownsRow A 9 1 (.slice (some ⟨gt, 0, none⟩) (o[i]).txt.length (o[i]).cap) (o[i]).txt.length ((o[i]).txt.map Value.string) := by rw [← e]; exact hti
    have h2 := (h1.stored j (.string t)).1
    unfold OwnT
    rw [e, List.length_set, List.map_set]
    exact h2
  refine ⟨⟨⟨?_, fun x hx => ?_⟩, ?_⟩, h.zu, fun x hx => ?_, h.kept.grown hg fun k hk => ⟨sl_lt hti k hk, h.zo _ (List.getElem_mem hi) k hk⟩⟩
  · rw [List.length_set, cellsX_set _ _ hi, hsl]
    obtain ⟨c0, c1⟩ := cellsX_get o i hi
    have e1 : ((cellsX o).set (i * 2) (.string (o[i]).name)).set (i * 2 + 1) (o[i]).sl = cellsX o := by
      apply List.ext_getElem?
      intro q
      rw [List.getElem?_set, List.getElem?_set]
      simp only [List.length_set]
      have hl := cellsX_len o
      split
      · rename_i hq; subst hq; rw [if_pos (by omega)]; exact c1.symm
      · split
        · rename_i hq; subst hq; rw [if_pos (by omega)]; exact c0.symm
        · rfl
    rw [e1]
    exact own_else h.own.1.1 hti (by decide) hg
  · obtain ⟨q, hq, rfl⟩ := List.mem_iff_getElem.1 hx
    rw [List.length_set] at hq
    rw [List.getElem_set]
    by_cases e : i = q
    · rw [if_pos e, hsl]; exact hnew
    · rw [if_neg e]
      exact World.ownsRow.kept (h.own.1.2 _ (List.getElem_mem hq)) hg (apart_ne h.own.2 hq hi (by omega))
  · refine apart_set h.own.2 hi fun q hq hne => ?_
    rw [hsl]
    exact apart_ne h.own.2 hq hi hne
  · obtain ⟨q, hq, rfl⟩ := List.mem_iff_getElem.1 hx
    rw [List.length_set] at hq
    rw [List.getElem_set]
    by_cases e : i = q
    · rw [if_pos e, hsl]; exact h.zo _ (List.getElem_mem hi)
    · rw [if_neg e]; exact h.zo _ (List.getElem_mem hq)

/-- The name is written over. -/
theorem XSt.rename {A B C : Nat} {we W : World} {g c n : Nat} {o : List Fx} (h : XSt A B C we (.slice (some ⟨g, 0, none⟩) n c) o W) (hn : o.length = n) {i : Nat} (hi : i < o.length) (nm : ByteArray) :
    XSt A B C we (.slice (some ⟨g, 0, none⟩) n c) (o.set i ⟨nm, (o[i]).p, (o[i]).cap, (o[i]).txt⟩) (W.setCell ⟨g, i * 2, none⟩ (.string nm)) := by
  subst hn
  have hrow := h.own.1.1
  have hg : W.grownBy (W.setCell ⟨g, i * 2, none⟩ (.string nm)) (Value.slice (some ⟨g, 0, none⟩) o.length c).ownBlock := grown_set W g _ _
  have hsl : (⟨nm, (o[i]).p, (o[i]).cap, (o[i]).txt⟩ : Fx).sl = (o[i]).sl := rfl
  refine ⟨⟨⟨?_, fun x hx => ?_⟩, ?_⟩, h.zu, fun x hx => ?_, h.kept.grown hg fun k hk => ⟨(World.ownsRow.lt hrow k hk).1, h.zu k hk⟩⟩
  · have hst := (hrow.stored (i * 2) (.string nm)).1
    rw [List.length_set, cellsX_set _ _ hi, hsl]
    have e1 : ((cellsX o).set (i * 2) (.string nm)).set (i * 2 + 1) (o[i]).sl = (cellsX o).set (i * 2) (.string nm) := by
      apply List.ext_getElem?
      intro q
      rw [List.getElem?_set]
      split
      · rename_i hq
        subst hq
        rw [if_pos (by rw [List.length_set, cellsX_len]; omega), List.getElem?_set_ne (by omega)]
        exact ((cellsX_get o i hi).2).symm
      · rfl
    rw [e1]
    exact hst
  · obtain ⟨q, hq, rfl⟩ := List.mem_iff_getElem.1 hx
    rw [List.length_set] at hq
    rw [List.getElem_set]
    by_cases e : i = q
    · rw [if_pos e]; exact own_else (show W.ownsRow A 9 1 (o[i]).sl (o[i]).txt.length ((o[i]).txt.map Value.string) from h.own.1.2 _ (List.getElem_mem hi)) hrow (by decide) hg
    · rw [if_neg e]; exact own_else (h.own.1.2 _ (List.getElem_mem hq)) hrow (by decide) hg
  · refine apart_set h.own.2 hi fun q hq hne => ?_
    rw [hsl]
    exact apart_ne h.own.2 hq hi hne
  · obtain ⟨q, hq, rfl⟩ := List.mem_iff_getElem.1 hx
    rw [List.length_set] at hq
    rw [List.getElem_set]
    by_cases e : i = q
    · rw [if_pos e, hsl]; exact h.zo _ (List.getElem_mem hi)
    · rw [if_neg e]; exact h.zo _ (List.getElem_mem hq)

/-- A block more, that nobody owns. -/
theorem XSt.alloc {A B C : Nat} {we W : World} {u : Value} {o : List Fx} (h : XSt A B C we u o W) (ob : Obj) : XSt A B C we u o (W.alloc ob) :=
  ⟨h.own.on ((Below.refl _ _).alloc (Nat.le_refl _) _), h.zu, h.zo, h.kept.grown (grown_alloc W ob) fun k hk => by cases hk⟩

/-- The texts have grown by one, and are stored back. -/
theorem XSt.grow {A B C : Nat} {we W W4 : World} {g c n : Nat} {o : List Fx} (h : XSt A B C we (.slice (some ⟨g, 0, none⟩) n c) o W) (hn : o.length = n) {i : Nat} (hi : i < o.length) {p : Option Addr} {m cap : Nat} {ts : List ByteArray}
    (hm : ts.length = m) (hown : W4.ownsRow A 9 1 (.slice p m cap) m (ts.map Value.string)) (hg : W.grownBy W4 (o[i]).sl.ownBlock) (hat : (Value.slice p m cap).ownBlock = (o[i]).sl.ownBlock ∨ (Value.slice p m cap).ownBlock = some W.heap.size) :
    W4.cell? ⟨g, i * 2 + 1, none⟩ = some (o[i]).sl ∧ W4.frozen? ⟨g, i * 2 + 1, none⟩ = false ∧
      XSt A B C we (.slice (some ⟨g, 0, none⟩) n c) (o.set i ⟨(o[i]).name, p, cap, ts⟩) (W4.setCell ⟨g, i * 2 + 1, none⟩ (.slice p m cap)) := by
  subst hn
  subst hm
  have hrow := h.own.1.1
  have hti := h.own.1.2 _ (List.getElem_mem hi)
  have hrow4 : W4.ownsRow A 43 2 (.slice (some ⟨g, 0, none⟩) o.length c) o.length (cellsX o) := own_else hrow hti (by decide) hg
  have hset : W4.grownBy (W4.setCell ⟨g, i * 2 + 1, none⟩ (.slice p ts.length cap)) (Value.slice (some ⟨g, 0, none⟩) o.length c).ownBlock := grown_set W4 g _ _
  have hk4 : KeptZ A B C we W4 := h.kept.grown hg fun k hk => ⟨sl_lt hti k hk, h.zo _ (List.getElem_mem hi) k hk⟩
  have hzn : ZoneV B C (.slice p ts.length cap) := fun k hk => by
    rcases hat with e | e
    · exact h.zo _ (List.getElem_mem hi) k (by rw [← e]; exact hk)
    · have := h.kept.size
      rw [e] at hk
      have : W.heap.size = k := by simpa using hk
      omega
  refine ⟨by rw [hrow4.cellAt _ (by omega)]; exact (cellsX_get o i hi).2, hrow4.frozenAt _, ⟨⟨⟨?_, fun x hx => ?_⟩, ?_⟩, h.zu, fun x hx => ?_, hk4.grown hset fun k hk => ⟨(World.ownsRow.lt hrow k hk).1, h.zu k hk⟩⟩⟩
  · have hst := (hrow4.stored (i * 2 + 1) (.slice p ts.length cap)).1
    rw [List.length_set, cellsX_set _ _ hi]
    have e1 : (cellsX o).set (i * 2) (.string (o[i]).name) = cellsX o := by
      apply List.ext_getElem?
      intro q
      rw [List.getElem?_set]
      split
      · rename_i hq
        subst hq
        rw [if_pos (by rw [cellsX_len]; omega)]
        exact ((cellsX_get o i hi).1).symm
      · rfl
    rw [e1]
    exact hst
  · obtain ⟨q, hq, rfl⟩ := List.mem_iff_getElem.1 hx
    rw [List.length_set] at hq
    rw [List.getElem_set]
    by_cases e : i = q
    · rw [if_pos e]; exact own_else (show W4.ownsRow A 9 1 (.slice p ts.length cap) ts.length (ts.map Value.string) from hown) hrow4 (by decide) hset
    · rw [if_neg e]
      have hy4 : W4.ownsRow A 9 1 (o[q]).sl (o[q]).txt.length ((o[q]).txt.map Value.string) := World.ownsRow.kept (h.own.1.2 _ (List.getElem_mem hq)) hg (apart_ne h.own.2 hq hi (by omega))
      exact own_else hy4 hrow4 (by decide) hset
  · refine apart_set h.own.2 hi fun q hq hne => ?_
    show (o[q]).sl.ownBlock = none ∨ (o[q]).sl.ownBlock ≠ (Value.slice p ts.length cap).ownBlock
    rcases hat with e | e
    · rw [e]; exact apart_ne h.own.2 hq hi hne
    · rcases hb : (o[q]).sl.ownBlock with _ | k
      · exact Or.inl rfl
      · right
        have := (World.ownsRow.lt (h.own.1.2 _ (List.getElem_mem hq)) k hb).2
        rw [e]
        intro e2
        simp at e2; omega
  · obtain ⟨q, hq, rfl⟩ := List.mem_iff_getElem.1 hx
    rw [List.length_set] at hq
    rw [List.getElem_set]
    by_cases e : i = q
    · rw [if_pos e]; exact hzn
    · rw [if_neg e]; exact h.zo _ (List.getElem_mem hq)

/-- What Norm answers, its rows apart. -/
def NJPost (w : World) (fs : List Fld) (e : Ending) (w' : World) : Prop :=
  (∃ u o, e = .returned (.tuple #[u, .int .i64 (codeF fs)]) ∧ OwnJ w.heap.size w' u o ∧ o.map Fx.fld = ansF fs) ∧ Below w.heap.size w w'

theorem own_noneJ (N : Nat) (w : World) : OwnJ N w (.slice none 0 0) [] := ⟨own_none _ _, List.Pairwise.nil⟩

theorem ans_small {fs : List Fld} : ∀ f ∈ ansF fs, f.2.length ≤ 8 := by
  unfold ansF
  split
  · rename_i h
    exact fun f hf => (fits_parts (may_fits (codeF_zero h).2.2 f hf)).2.2.1
  · intro f hf; simp at hf

end Go.Proofs.YtfcjnoojcajljaaGreatDoor

/-
  The contract of Parse of terms.
-/
namespace Go.Proofs.YtfcjnoojcajljaaGreatDoor
open Go.RowKit
attribute [local go_sem] Oper.semAt_some

theorem termO_fit {l : List UInt8} {x : Tm} (h : termO l = some x) : x.1.size ≤ l.length ∧ x.2.2.size ≤ l.length ∧ 0 ≤ x.2.1 ∧ x.2.1 ≤ 7 := by
  unfold termO at h
  cases hd : l.dropWhile (fun c => !isOp c) with
  | nil => rw [hd] at h; cases h
  | cons c r =>
    rw [hd] at h
    simp only at h
    have hl : (l.dropWhile (fun c => !isOp c)).length ≤ l.length := (List.dropWhile_sublist _).length_le
    rw [hd, List.length_cons] at hl
    cases hr : readL r with
    | none => rw [hr] at h; cases h
    | some t =>
      rw [hr] at h
      simp only at h
      split at h
      · cases h
      · cases h
        have h1 := readL_len _ _ _ (Nat.le_refl _) hr
        have h2 := opN_range (c.toNat : Int)
        refine ⟨?_, ?_, h2.1, h2.2⟩
        · show (l.takeWhile _).toArray.size ≤ _
          rw [List.size_toArray]
          exact (List.takeWhile_sublist _).length_le
        · show t.toArray.size ≤ _
          rw [List.size_toArray]
          omega

theorem termsW_fit {B : Nat} (ls : List (List UInt8)) (hB : ∀ l ∈ ls, l.length ≤ B) : ∀ d, termsW ls = some d → d.length = ls.length ∧ ∀ x ∈ d, x.1.size ≤ B ∧ x.2.2.size ≤ B ∧ 0 ≤ x.2.1 ∧ x.2.1 ≤ 7 := by
  induction ls with
  | nil => intro d h; cases h; exact ⟨rfl, fun x hx => by simp at hx⟩
  | cons l ls ih =>
    intro d h
    simp only [termsW] at h
    cases ho : termO l with
    | none => rw [ho] at h; cases h
    | some y =>
      rw [ho] at h
      cases hr : termsW ls with
      | none => rw [hr] at h; cases h
      | some gs =>
        rw [hr] at h
        cases h
        obtain ⟨h1, h2⟩ := ih (fun l' hl' => hB l' (by simp [hl'])) gs hr
        refine ⟨by simp [h1], fun x hx => ?_⟩
        rcases List.mem_cons.1 hx with rfl | hx
        · obtain ⟨f1, f2, f3, f4⟩ := termO_fit ho
          have := hB l (by simp)
          exact ⟨by omega, by omega, f3, f4⟩
        · exact h2 x hx

theorem Kind.own_far {α : Type} {K : Kind α} {N R : Nat} {w w' : World} {v : Value} {d : List α} (h : K.Own N w v d) (hg : w.grownBy w' (some R)) (hR : R < N) : K.Own N w' v d :=
  own_same h fun k hk => hg.block k (World.ownsRow.lt h k hk).2 (fun e => by have := (World.ownsRow.lt h k hk).1; have := Option.some.inj e; omega)

/-- What Parse holds between two rounds. -/
def PSt {M : Nat} (w : World) (N : Nat) (pre : List (Wd M)) (W : World) : Prop :=
  ∃ v d, W.heap[w.heap.size + 2]? = some (.cells #[v] 22 (0, 0)) ∧ KM.Own (N + 2) W v d ∧ termsW (plainW pre) = some d ∧ d.length = pre.length ∧
    W.heap[w.heap.size]? = some (.cells #[.slice none 0 0] 22 (0, 0)) ∧ W.heap[w.heap.size + 1]? = some (.cells #[.int .i64 0] 24 (0, 0)) ∧ Below w.heap.size w W ∧ N + 2 ≤ W.heap.size ∧ w.heap.size + 6 ≤ N

def PStop {M : Nat} (w : World) (N : Nat) (c : Code) (pre : List (Wd M)) (W : World) : Prop :=
  c = .ret ∧ termsW (plainW pre) = none ∧ W.heap[w.heap.size]? = some (.cells #[.slice none 0 0] 22 (0, 0)) ∧ W.heap[w.heap.size + 1]? = some (.cells #[.int .i64 4] 24 (0, 0)) ∧ Below w.heap.size w W ∧ w.heap.size + 6 ≤ N

set_option maxHeartbeats 1000000 in
theorem pparse_empty (w : World) : Calls Tryz.prog 22 #[.string ⟨#[]⟩] w fun e w' => TWPost w (termsW (wordsAns [])) e w' := by
  refine (callsIn_wide (n := 3)).1 ?_
  refine callsIn_of_wp_marks Tryz.func22 rfl trivial ?_ rfl
  simp only [Tryz.ntmps22, List.size_toArray, List.length_cons, List.length_nil, Nat.reduceAdd, Nat.reduceSub, Array.replicate_succ, Array.replicate_zero, List.push_toArray, List.append_toArray, List.nil_append, List.cons_append]
  gi_wp2
  exact ⟨.tuple #[.slice none 0 0, .int .i64 0], by simp [results, Tryz.results22, go_sem], ⟨⟨_, rfl, KM.own_nil _ _⟩, ((Below.refl _ w).alloc (Nat.le_refl _) _).alloc (by simp) _⟩⟩

set_option maxHeartbeats 4000000 in
set_option maxRecDepth 100000 in
theorem pparse_words (s : ByteArray) (w : World) (hp : PlainAt w) (h0 : s.data.toList ≠ []) (hs : s.size ≤ 4294967000) :
    Calls Tryz.prog 22 #[.string s] w fun e w' => TWPost w (termsW (wordsAns s.data.toList)) e w' := by
  refine (callsIn_wide (n := 3)).1 ?_
  refine callsIn_of_wp_marks Tryz.func22 rfl trivial ?_ rfl
  simp only [Tryz.ntmps22, List.size_toArray, List.length_cons, List.length_nil, Nat.reduceAdd, Nat.reduceSub, Array.replicate_succ, Array.replicate_zero, List.push_toArray, List.append_toArray, List.nil_append, List.cons_append]
  have hsl : (splitL s.data.toList).length ≤ s.size + 1 := by simpa using splitL_len s.data.toList
  have hne : s.toList.isEmpty = false := by
    rw [Lib.toList_data]
    cases h : s.data.toList with
    | nil => exact absurd h h0
    | cons _ _ => rfl
  gi_wp2_with (refine ⟨trivial, ?_⟩; gi_at_call 44; refine (callsIn_wide.2 (splitSeq_any _ _)).mono ?_; rintro e w3 ⟨rfl, hbx, hb3, hs3⟩)
  simp only [World.size_alloc] at hbx hb3 hs3
  have hb30 : Below w.heap.size w w3 := ((((Below.refl _ w).alloc (Nat.le_refl _) _).alloc (by simp) _).alloc (by simp; omega) _).trans (hb3.mono (by omega))
  have g0 : w3.heap[w.heap.size]? = some (.cells #[.slice none 0 0] 22 (0, 0)) := by
    rw [hb3.block _ (by omega), Below.heap_alloc _ _ _ (by simp; omega), Below.heap_alloc _ _ _ (by simp)]; exact heap_alloc_new w _
  have g1 : w3.heap[w.heap.size + 1]? = some (.cells #[.int .i64 0] 24 (0, 0)) := by
    rw [hb3.block _ (by omega), Below.heap_alloc _ _ _ (by simp)]
    have := heap_alloc_new (w.alloc (.cells #[.slice none 0 0] 22)) (.cells #[.int .i64 0] 24)
    simpa using this
  have g2 : w3.heap[w.heap.size + 2]? = some (.cells #[.slice none 0 0] 22 (0, 0)) := by
    rw [hb3.block _ (by omega)]
    have := heap_alloc_new ((w.alloc (.cells #[.slice none 0 0] 22)).alloc (.cells #[.int .i64 0] 24)) (.cells #[.slice none 0 0] 22)
    simpa using this
  have hN6 : w3.heap.size = w.heap.size + 6 := by omega
  have ST0 : Hid (∀ o1 o2, PSt (M := s.size) w w3.heap.size [] ((w3.alloc o1).alloc o2)) := fun o1 o2 => by
    have ha : ∀ k, k < w3.heap.size → ((w3.alloc o1).alloc o2).heap[k]? = w3.heap[k]? := fun k hk => by
      rw [Below.heap_alloc _ _ _ (by simp; omega), Below.heap_alloc _ _ _ hk]
    exact ⟨.slice none 0 0, [], (ha _ (by omega)).trans g2, KM.own_nil _ _, rfl, rfl, (ha _ (by omega)).trans g0, (ha _ (by omega)).trans g1,
      (hb30.alloc hb30.size _).alloc (by have := hb30.size; simp; omega) _, by simp, by omega⟩
  have HBX := hid hbx
  have HP := hid hp
  have hen := enters_of (P := Tryz.prog) Tryz.func104 (by kernel_rfl) rfl
  clear hbx hp g0 g1 g2 hb3 hs3
  refine wpIn_rangeFunc_box (w := w3) rfl (by decide) (gf := 104) (lb := #[.pointer (some ⟨w.heap.size + 1 + 1 + 1 + 1, 0, none⟩), .pointer (some ⟨w.heap.size + 1 + 1 + 1, 0, none⟩), .pointer (some ⟨w.heap.size + 1 + 1 + 1 + 2, 0, none⟩)]) rfl trivial hen (Bs := w.heap.size + 1 + 1 + 1) (by omega)
    (split1_seq 2 (by decide) s.size _ _ _ s (Nat.le_refl _) (by unfold maxLen; omega) w3 HBX.out) ?hKt ?hKb (fun _ => rfl) (PSt w w3.heap.size) (PStop w w3.heap.size) ?hIp ?hIb ?hXp ST0.out
    (fun x => { tmps := #[.string s, undef, .pointer (some ⟨w.heap.size, 0, none⟩), .pointer (some ⟨w.heap.size + 1, 0, none⟩), .pointer (some ⟨w.heap.size + 1 + 1, 0, none⟩), .string x.1, undef, undef, .string s, .bool false, .string s,
      .func (.func 104) #[] #[.pointer (some ⟨w.heap.size + 1 + 1 + 1 + 1, 0, none⟩), .pointer (some ⟨w.heap.size + 1 + 1 + 1, 0, none⟩), .pointer (some ⟨w.heap.size + 1 + 1 + 1 + 2, 0, none⟩)],
      .string x.1, undef, undef, undef, undef, undef, undef, undef, undef, undef, undef, undef, undef, undef, undef, undef, undef], defers := [] }) ?assign ?body ?done ?stop
  case hKt => exact fun h k => ⟨k.1.trans h.1, k.2.1.trans h.2.1, k.2.2.trans h.2.2⟩
  case hKb => exact fun W l o' hl => ⟨World.putObj_heap_other (by omega), World.putObj_heap_other (by omega), World.putObj_heap_other (by omega)⟩
  case hIp =>
    rintro pre W o' ⟨v, d, k2, hox, hf, hl, k0, k1, hb, hz, h6⟩
    have hg : W.grownBy (W.putObj (w3.heap.size + 1) o') (some (w3.heap.size + 1)) := grownBy_putObj' W _ o'
    exact ⟨v, d, (World.putObj_heap_other (by omega)).trans k2, Kind.own_far hox hg (by omega), hf, hl, (World.putObj_heap_other (by omega)).trans k0, (World.putObj_heap_other (by omega)).trans k1, hb.grown hg (by omega) (fun k e => by cases e; omega), Nat.le_trans hz hg.size, h6⟩
  case hIb =>
    rintro pre W u ⟨v, d, k2, hox, hf, hl, k0, k1, hb, hz, h6⟩
    have hg : W.grownBy (W.setCell ⟨w.heap.size + 1 + 1 + 1, 0, none⟩ u) (some (w.heap.size + 1 + 1 + 1)) := grown_set W _ 0 u
    exact ⟨v, d, (hg.block _ (by omega) (by intro e; have := Option.some.inj e; omega)).trans k2, Kind.own_far hox hg (by omega), hf, hl, (hg.block _ (by omega) (by intro e; have := Option.some.inj e; omega)).trans k0, (hg.block _ (by omega) (by intro e; have := Option.some.inj e; omega)).trans k1, hb.grown hg (by omega) (fun k e => by cases e; omega), Nat.le_trans hz hg.size, h6⟩
  case hXp =>
    rintro c pre W o' ⟨hc, hf, k0, k1, hb, h6⟩
    have hg : W.grownBy (W.putObj (w3.heap.size + 1) o') (some (w3.heap.size + 1)) := grownBy_putObj' W _ o'
    exact ⟨hc, hf, (World.putObj_heap_other (by omega)).trans k0, (World.putObj_heap_other (by omega)).trans k1, ⟨hg.os.trans hb.os, hg.tape.trans hb.tape, hg.output.trans hb.output, Nat.le_trans hb.size hg.size, fun k hk => (World.putObj_heap_other (by omega)).trans (hb.block k hk)⟩, h6⟩
  case assign =>
    intro l x W K hK
    simp only [encW]
    gi_wp2
    exact hK
  case body =>
    rintro l pre x W hlW ⟨v, d, k2, hox, hf, hl, k0, k1, hb, hz, h6⟩ hlen
    have hwp := term_any x.1 W (HP.out.on hb) (Nat.le_trans x.2 hs)
    obtain ⟨i0, hi, hz0, hz1, hz2⟩ := info_parts Tryz.infoTrm
    have hpl : plainW (pre ++ [x]) = plainW pre ++ [x.1.data.toList] := by simp [plainW]
    have HPL := hid hpl
    have HF := hid hf
    have HB := hid hb
    have HOX := hid hox
    have HK0 := hid k0
    have HK1 := hid k1
    have HK2 := hid k2
    have HLN := hid hl
    clear hpl hf hb hox hl
    cases hwo : termO x.1.data.toList with
    | none =>
      rw [hwo] at hwp
      have HW : Hid (Calls Tryz.prog 45 #[.string x.1] W fun e w' => e = .returned (.tuple #[.agg #[.string ⟨#[]⟩, .int .i64 0, .string ⟨#[]⟩], .int .i64 4]) ∧ Below W.heap.size W w') := hwp
      have HNO : Hid (termsW (plainW (pre ++ [x])) = none) := by
        show _ = _
        rw [HPL.out]
        exact termsW_no hwo
      clear hwp k0 k1 k2
      have HN6 := hid hN6
      clear hN6
      gi_wp2_with (refine ⟨trivial, ?_⟩; gi_at_call 45; refine (CallsIn.inRound l (callsIn_wide.2 HW.out)).mono ?_; rintro e W2 ⟨rfl, hb2⟩; have hs2 := hb2.size; have t0 := HK0.out; have t1 := HK1.out; have t0' := (Below.heap_alloc W2 (.cells #[.string ⟨#[]⟩, .int .i64 0, .string ⟨#[]⟩] 39) w.heap.size (by omega)).trans ((hb2.block w.heap.size (by omega)).trans t0); have t1' := (Below.heap_alloc W2 (.cells #[.string ⟨#[]⟩, .int .i64 0, .string ⟨#[]⟩] 39) (w.heap.size + 1) (by omega)).trans ((hb2.block (w.heap.size + 1) (by omega)).trans t1); obtain ⟨q0, q1⟩ := one_facts t0'; obtain ⟨q2, q3⟩ := one_facts t1'; have T0 := hid t0'; have T1 := hid t1'; clear t0 t1 t0' t1')
      have hbb := ((((HB.out.trans (hb2.mono HB.out.size)).alloc (Nat.le_trans HB.out.size hs2) (.cells #[.string ⟨#[]⟩, .int .i64 0, .string ⟨#[]⟩] 39)).setCell (p := ⟨w.heap.size, 0, none⟩) (Nat.le_refl _) (.slice none 0 0)).setCell (p := ⟨w.heap.size + 1, 0, none⟩) (by show _ ≤ w.heap.size + 1; omega) (.int .i64 4))
      have hkf : KeepsFrom w3.heap.size W (W2.alloc (.cells #[.string ⟨#[]⟩, .int .i64 0, .string ⟨#[]⟩] 39)) := KeepsFrom.trans (keeps_below hb2) ((KeepsOthers.alloc _ _).from _)
      exact ⟨(hkf.trans ((KeepsOthers.setCell _ _ _).from _)).trans ((KeepsOthers.setCell _ _ _).from _), rfl, HNO.out, Boxed.other (Boxed.set _ T0.out) (by omega) _, Boxed.set _ (Boxed.other T1.out (by omega) _), hbb, h6⟩
    | some y =>
      rw [hwo] at hwp
      have HW : Hid (Calls Tryz.prog 45 #[.string x.1] W fun e w' => e = .returned (.tuple #[.agg #[.string y.1, .int .i64 y.2.1, .string y.2.2], .int .i64 0]) ∧ Below W.heap.size W w') := hwp
      have HNO : Hid (termsW (plainW (pre ++ [x])) = some (d ++ [y])) := by
        show _ = _
        rw [HPL.out]
        exact termsW_snoc HF.out hwo
      obtain ⟨yf, yo, yt⟩ := y
      simp only at HW
      clear hwp k0 k1 k2
      have HN6 := hid hN6
      clear hN6
      gi_wp2_with (first | (gi_at_builtin; refine wpListIn_append_own _ rfl _ _ 22 rfl (w3.heap.size + 2) 39 i0 (.agg #[.string ⟨#[]⟩, .int .i64 0, .string ⟨#[]⟩]) 3 40 Tryz.underlying22 hi hz0 hz1 hz2 rfl (by decide) _ _ _ rfl HX2.out ⟨W2.heap.size + 1, 0, none⟩ 1 1 (KM.cells [(yf, yo, yt)]) rfl rfl HC.out (KM.cells_ones _) (by rw [HLN.out]; unfold maxLen; omega) (by rw [HLN.out]; omega) (by simp; omega) ?_; intro v' w1 hown' hgrow _; obtain ⟨g', cap', rfl⟩ := ownsRow_succ hown'; have hv1 := T2.out.kept hgrow (T2.out.not_row (by decide) HX2.out); have hc1 := hv1.cell; have hf1 := hv1.frozen; have HV1 := hid hv1; have HO := hid hown'; have HG := hid hgrow; clear hv1 hown' hgrow) | (refine ⟨trivial, ?_⟩; gi_at_call 45; refine (CallsIn.inRound l (callsIn_wide.2 HW.out)).mono ?_; rintro e W2 ⟨rfl, hb2⟩; have hs2 := hb2.size; have t2 := HK2.out; have t2' := (Below.heap_alloc W2 (.cells #[.string yf, .int .i64 yo, .string yt] 39) (w.heap.size + 2) (by omega)).trans ((hb2.block (w.heap.size + 2) (by omega)).trans t2); obtain ⟨q0, q1⟩ := one_facts t2'; have T2 : Hid (Boxed ((W2.alloc (.cells #[.string yf, .int .i64 yo, .string yt] 39)).alloc (.cells #[.string yf, .int .i64 yo, .string yt] 39)) (w.heap.size + 2) 22 v) := hid (Boxed.alloc t2' _); have HB2 : Hid (Below W.heap.size W ((W2.alloc (.cells #[.string yf, .int .i64 yo, .string yt] 39)).alloc (.cells #[.string yf, .int .i64 yo, .string yt] 39))) := hid ((hb2.alloc hs2 _).alloc (by simp; omega) _); have HX2 := hid (Kind.own_on HOX.out HB2.out); have HC := hid (KM.news (W2.alloc (.cells #[.string yf, .int .i64 yo, .string yt] 39)) (yf, yo, yt)); rw [World.size_alloc] at HC; clear t2 t2'))
      have hb12 : Below (w3.heap.size + 2) W w1 := (HB2.out.mono hz).trans ((Below.refl _ _).grown HG.out (by simp; omega) (fun k hk => (World.ownsRow.lt HX2.out k hk).1))
      have hsz1 := hb12.size
      have hox0 : KM.Own (w3.heap.size + 2) w1 (.slice (some ⟨g', 0, none⟩) (d.length + 1) cap') (d ++ [(yf, yo, yt)]) := Kind.own_snoc HO.out rfl rfl
      have hox1 := Kind.own_far hox0 (grown_set w1 (w.heap.size + 2) 0 (.slice (some ⟨g', 0, none⟩) (d.length + 1) cap')) (by omega)
      have hkf : KeepsFrom w3.heap.size W w1 := (keeps_below HB2.out).trans ((KeepsOthers.of_grownBy HG.out (fun j o ej hj => row_cells HX2.out ej hj)).from _)
      refine ⟨hkf.trans ((KeepsOthers.setCell _ _ _).from _), ⟨(Below.heap_setCell w1 _ _ _ (by show _ ≠ w.heap.size + 1 + 1; omega)).trans (hb12.block _ (by omega)), (Below.heap_setCell w1 _ _ _ (by show _ ≠ w.heap.size + 1 + 1; omega)).trans (hb12.block _ (by omega)), (Below.heap_setCell w1 _ _ _ (by show _ ≠ w.heap.size + 1 + 1; omega)).trans (hb12.block _ (by omega))⟩, ?_⟩
      exact ⟨_, d ++ [(yf, yo, yt)], Boxed.set _ HV1.out, hox1, HNO.out, by rw [List.length_append, List.length_append, HLN.out]; rfl,
        Boxed.other ((hb12.block _ (by omega)).trans HK0.out) (by omega) _, Boxed.other ((hb12.block _ (by omega)).trans HK1.out) (by omega) _,
        (HB.out.trans (hb12.mono (by omega))).setCell (p := ⟨w.heap.size + 1 + 1, 0, none⟩) (by show _ ≤ w.heap.size + 1 + 1; omega) _, by simp [World.setCell]; omega, h6⟩
  case done =>
    rintro xs W hS ⟨v, d, k2, hox, hf, hl, k0, k1, hb, hz, h6⟩ hK
    have hfs : termsW (wordsAns s.data.toList) = some d := by unfold wordsAns; rw [if_neg h0, ← hS]; exact hf
    have hln : d.length = (splitL s.data.toList).length := by rw [hl]; have := congrArg List.length hS; simpa [plainW] using this
    obtain ⟨f1, f3⟩ := termsW_fit (B := s.size) (plainW xs) (fun l hl => by
      obtain ⟨x, _, rfl⟩ := List.mem_map.1 hl
      simpa using x.2) d hf
    have hfit : FitM d := ⟨by unfold maxLen; omega, fun x hx => by
      obtain ⟨a1, a2, a3, a4⟩ := f3 x hx
      refine ⟨?_, ?_, by omega, by omega⟩
      · unfold maxLen; omega
      · unfold maxLen; omega⟩
    have hnm := pnorm_any v d W (Kind.own_is hox) hfit
    have HNM : Hid (Calls Tryz.prog 10 #[v] W fun e w' => ∃ p n c, e = .returned (.tuple #[.slice p n c, .int .i64 (mayM d)]) ∧ KM.Own W.heap.size w' (.slice p n c) (ansM d) ∧ Below W.heap.size W w') := hnm.mono (by
      rintro e w' ⟨⟨u, rfl, ho⟩, hb'⟩
      obtain ⟨p, c, rfl⟩ := Kind.own_shape ho
      exact ⟨p, _, c, rfl, ho, hb'⟩)
    have HAN : Hid (codeW (some d) = mayM d ∧ ansW (some d) = ansM d) := ⟨rfl, rfl⟩
    obtain ⟨k, hk⟩ : ∃ k, mayM d = k := ⟨_, rfl⟩
    rw [hk] at HNM HAN
    obtain ⟨c2, _⟩ := one_facts k2
    have HK0 := hid k0
    have HK1 := hid k1
    have HB := hid hb
    have HK := hid hK
    have HFS := hid hfs
    have HN6 := hid hN6
    clear hnm hfit hox hf k0 k1 k2 hK hN6 hb hfs hk
    gi_wp2_with (refine ⟨trivial, ?_⟩; gi_at_call 10; refine (callsIn_wide.2 HNM.out).mono ?_; rintro e W2 ⟨p, n, c, rfl, hans, hb2⟩; obtain ⟨q0, q1⟩ := one_facts ((hb2.block w.heap.size (by omega)).trans HK0.out); obtain ⟨q2, q3⟩ := one_facts ((hb2.block (w.heap.size + 1) (by omega)).trans HK1.out))
    have u0 : Boxed W2 w.heap.size 22 (.slice none 0 0) := (hb2.block w.heap.size (by omega)).trans HK0.out
    have u1 : Boxed W2 (w.heap.size + 1) 24 (.int .i64 0) := (hb2.block (w.heap.size + 1) (by omega)).trans HK1.out
    obtain ⟨W4, hW4⟩ : ∃ W4, (W2.setCell ⟨w.heap.size, 0, none⟩ (.slice p n c)).setCell ⟨w.heap.size + 1, 0, none⟩ (.int .i64 k) = W4 := ⟨_, rfl⟩
    have y0 : Boxed W4 w.heap.size 22 (.slice p n c) := by rw [← hW4]; exact Boxed.other (Boxed.set _ u0) (by omega) _
    have y1 : Boxed W4 (w.heap.size + 1) 24 (.int .i64 k) := by rw [← hW4]; exact Boxed.set _ (Boxed.other u1 (by omega) _)
    have hKD : W4.heap[w3.heap.size]? = some (.deferred (some [])) := by
      rw [← hW4]
      exact (Below.heap_setCell _ _ _ _ (by show _ ≠ w.heap.size + 1; omega)).trans ((Below.heap_setCell _ _ _ _ (by show _ ≠ w.heap.size; omega)).trans ((hb2.block _ (by omega)).trans HK.out))
    have hb4 : Below w.heap.size w W4 := by
      rw [← hW4]
      exact ((HB.out.trans (hb2.mono HB.out.size)).setCell (p := ⟨w.heap.size, 0, none⟩) (Nat.le_refl _) _).setCell (p := ⟨w.heap.size + 1, 0, none⟩) (by show _ ≤ w.heap.size + 1; omega) _
    have ha4 : KM.Own W.heap.size W4 (.slice p n c) (ansM d) := by
      rw [← hW4]
      exact Kind.own_far (Kind.own_far hans (grown_set W2 w.heap.size 0 _) (by omega)) (grown_set _ (w.heap.size + 1) 0 _) (by omega)
    rw [hW4]
    have hsz4 := hb4.size
    have hg5 : W4.grownBy (W4.putObj w3.heap.size (.deferred none)) (some w3.heap.size) := grownBy_putObj' W4 _ _
    have z0 : Boxed (W4.putObj w3.heap.size (.deferred none)) w.heap.size 22 (.slice p n c) := (World.putObj_heap_other (by omega)).trans y0
    have z1 : Boxed (W4.putObj w3.heap.size (.deferred none)) (w.heap.size + 1) 24 (.int .i64 k) := (World.putObj_heap_other (by omega)).trans y1
    have z0c := z0.cell
    have z1c := z1.cell
    refine ⟨by simp, .inl ⟨_, _, rfl, run_takeDeferred hKD, ?_⟩⟩
    refine ⟨.tuple #[.slice p n c, .int .i64 k], by simp [results, Tryz.results22, go_sem, z0c, z1c], ⟨.slice p n c, ?_, ?_⟩, hb4.grown hg5 (by omega) (fun k e => by cases e; omega)⟩
    · rw [HFS.out, HAN.out.1]
    · rw [HFS.out, HAN.out.2]
      exact Kind.own_weak (Kind.own_far ha4 hg5 (by omega)) (by omega)
  case stop =>
    rintro c pre W hSp ⟨rfl, hf, k0, k1, hb, h6⟩ hK
    have HN6 := hid hN6
    clear hN6
    gi_wp2
    have hg5 : W.grownBy (W.putObj w3.heap.size (.deferred none)) (some w3.heap.size) := grownBy_putObj' W _ _
    have z0 : Boxed (W.putObj w3.heap.size (.deferred none)) w.heap.size 22 (.slice none 0 0) := (World.putObj_heap_other (by omega)).trans k0
    have z1 : Boxed (W.putObj w3.heap.size (.deferred none)) (w.heap.size + 1) 24 (.int .i64 4) := (World.putObj_heap_other (by omega)).trans k1
    have z0c := z0.cell
    have z1c := z1.cell
    have hno : termsW (wordsAns s.data.toList) = none := by
      obtain ⟨r, hr⟩ := hSp
      unfold wordsAns
      rw [if_neg h0, ← hr, termsW_append, hf]; rfl
    refine ⟨by simp, .inl ⟨_, _, rfl, run_takeDeferred hK, ?_⟩⟩
    refine ⟨.tuple #[.slice none 0 0, .int .i64 4], by simp [results, Tryz.results22, go_sem, z0c, z1c], ⟨.slice none 0 0, ?_, ?_⟩, hb.grown hg5 hb.size (fun k e => by cases e; omega)⟩
    · rw [hno]; rfl
    · rw [hno]; exact KM.own_nil _ _

theorem pparse_any (s : ByteArray) (w : World) (hp : PlainAt w) (hs : s.size ≤ 4294967000) :
    Calls Tryz.prog 22 #[.string s] w fun e w' => TWPost w (termsW (wordsAns s.data.toList)) e w' := by
  by_cases h0 : s.data.toList = []
  · have e : s = ⟨#[]⟩ := by
      obtain ⟨⟨l⟩⟩ := s
      cases h0
      rfl
    subst e
    exact pparse_empty w
  · exact pparse_words s w hp h0 hs

end Go.Proofs.YtfcjnoojcajljaaGreatDoor
