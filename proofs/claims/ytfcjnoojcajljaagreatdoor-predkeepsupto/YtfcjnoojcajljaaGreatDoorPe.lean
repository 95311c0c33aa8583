/-
  Texts of this claim, one behind the other: Rp4 Pmn Pc4 Pc6 Pfx Plw.
-/
import Derived.Test.YtfcjnoojcajljaaGreatDoorPa
import Derived.Deep.CutRange
import Derived.Test.YtfcjnoojcajljaaGreatDoorPb
import Derived.Maps.OwnOps
import Derived.Maps.Views
import Derived.WideKeyEntry
import Derived.DeepKeys4
import Derived.RegionTactic
import Derived.WalkArith
import Derived.BigRegion
import Derived.Test.YtfcjnoojcajljaaGreatDoorPc
import Derived.Test.YtfcjnoojcajljaaGreatDoorPd
/-
  The contract of the reference's Never.
-/
namespace Go.Proofs.YtfcjnoojcajljaaGreatDoor
open Go.RowKit

/-- Do two terms shut each other out? -/
def clashM (a b : Tm) : Bool :=
  decide (a.1 = b.1) && ((decide (a.2.1 = 7) && (decide (b.2.1 = 1) || decide (b.2.1 = 3) || decide (b.2.1 = 4) || decide (b.2.1 = 5) || decide (b.2.1 = 6))) || (decide (a.2.1 = 1) && decide (b.2.1 = 2) && decide (a.2.2 = b.2.2)))
def neverM (p : List Tm) : Bool := p.any fun a => p.any fun b => clashM a b

theorem never_at {p : List Tm} {i j : Nat} (hi : i < p.length) (hj : j < p.length) (h : clashM p[i] p[j] = true) : neverM p = true := by
  unfold neverM
  rw [List.any_eq_true]
  refine ⟨p[i], List.getElem_mem hi, ?_⟩
  rw [List.any_eq_true]
  exact ⟨p[j], List.getElem_mem hj, h⟩

theorem never_no {p : List Tm} (h : ∀ i j, (hi : i < p.length) → (hj : j < p.length) → clashM p[i] p[j] = false) : neverM p = false := by
  unfold neverM
  rw [List.any_eq_false]
  intro a ha
  obtain ⟨i, hi, rfl⟩ := List.mem_iff_getElem.1 ha
  rw [Bool.not_eq_true, List.any_eq_false]
  intro b hb
  obtain ⟨j, hj, rfl⟩ := List.mem_iff_getElem.1 hb
  rw [h i j hi hj]
  simp

set_option maxHeartbeats 8000000 in
set_option maxRecDepth 100000 in
theorem rnever_any (v : Value) (p : List Tm) (w : World) (hv : KM.Is w v p) (hl : p.length ≤ maxLen) :
    Calls Tryz.prog 17 #[v] w fun e w' => e = .returned (.bool (neverM p)) ∧ Below w.heap.size w w' := by
  obtain ⟨q, cap, rfl, hd⟩ := hv
  unfold maxLen at hl
  have HD := hid hd
  obtain ⟨r, hr⟩ : ∃ r, neverM p = r := ⟨_, rfl⟩
  rw [hr]
  have HR := hid hr
  clear hd hr
  go_enter Tryz.func17, Tryz.ntmps17
  go_wp2_with fail
  go_loopg [3] p.length (fun g vi ws => ∃ i : Nat, vi = .int .i64 i ∧ i ≤ p.length ∧ p.length - i ≤ g ∧ Hid (∀ a b, (ha : a < p.length) → (hb : b < p.length) → a < i → clashM p[a] p[b] = false) ∧ Hid (Below w.heap.size w ws))
  case atStart => exact ⟨0, rfl, by omega, by omega, fun a b _ _ h => by omega, Below.refl _ _⟩
  case round =>
  obtain ⟨i, rfl, hi, hgi, HI, HB⟩ := hrel
  by_cases hlt : i < p.length
  · have hltz : (i : Int) < (p.length : Int) := by omega
    have hiz : (0 : Int) ≤ (i : Int) := by omega
    obtain ⟨b, off, rfl, hat⟩ : ∃ b off, q = some ⟨b, off, none⟩ ∧ KM.At w b off p := by
      rcases HD.out with h | h
      · subst h; simp at hlt
      · exact h
    have HAT := hid hat
    clear hat
    go_wp2_with fail
    go_loopg [4] p.length (fun g vj ws => ∃ j : Nat, vj = .int .i64 j ∧ j ≤ p.length ∧ p.length - j ≤ g ∧ Hid (∀ b, (hb : b < p.length) → b < j → clashM p[i] p[b] = false) ∧ Hid (Below w.heap.size w ws))
    case atStart => exact ⟨0, rfl, by omega, by omega, fun b _ h => by omega, HB⟩
    case round =>
    clear HB
    obtain ⟨j, rfl, hj, hgj, HJ, HB⟩ := hrel
    have hsz := HB.out.size
    by_cases hlj : j < p.length
    · have hljz : (j : Int) < (p.length : Int) := by omega
      have hjz : (0 : Int) ≤ (j : Int) := by omega
      obtain ⟨a0, a1, a2⟩ := km_cells (Kind.at_kept HAT.out HB.out) i hlt
      obtain ⟨c0, c1, c2⟩ := km_cells (Kind.at_kept HAT.out HB.out) j hlj
      have hA1 := fun o => km_cells (Kind.at_kept HAT.out (HB.out.alloc hsz o)) i hlt
      have hA2 := fun o o' => km_cells (Kind.at_kept HAT.out ((HB.out.alloc hsz o).alloc (by simp; omega) o')) i hlt
      have hC1 := fun o => km_cells (Kind.at_kept HAT.out (HB.out.alloc hsz o)) j hlj
      have hC2 := fun o o' => km_cells (Kind.at_kept HAT.out ((HB.out.alloc hsz o).alloc (by simp; omega) o')) j hlj
      have HNV := hid (fun h => never_at hlt hlj h)
      have HNX : Hid (clashM p[i] p[j] = false → ∀ b, (hb : b < p.length) → b < j + 1 → clashM p[i] p[b] = false) := fun h b hb hbj => by
        by_cases e : b = j
        · subst e; exact h
        · exact HJ.out b hb (by omega)
      obtain ⟨x, hx⟩ : ∃ x, p[i] = x := ⟨_, rfl⟩
      obtain ⟨y, hy⟩ : ∃ y, p[j] = y := ⟨_, rfl⟩
      rw [hx] at a0 a1 a2 hA1 hA2
      rw [hy] at c0 c1 c2 hC1 hC2
      have HCL : Hid (clashM p[i] p[j] = clashM x y) := by show _ = _; rw [hx, hy]
      rw [HCL.out] at HNV HNX
      obtain ⟨xf, xo, xt⟩ := x
      obtain ⟨yf, yo, yt⟩ := y
      simp only at a0 a1 a2 c0 c1 c2 hA1 hA2 hC1 hC2
      have a10 := fun o => (hA1 o).1
      have a11 := fun o => (hA1 o).2.1
      have a12 := fun o => (hA1 o).2.2
      have a20 := fun o o' => (hA2 o o').1
      have a21 := fun o o' => (hA2 o o').2.1
      have a22 := fun o o' => (hA2 o o').2.2
      have c10 := fun o => (hC1 o).1
      have c11 := fun o => (hC1 o).2.1
      have c12 := fun o => (hC1 o).2.2
      have c20 := fun o o' => (hC2 o o').1
      have c21 := fun o o' => (hC2 o o').2.1
      have c22 := fun o o' => (hC2 o o').2.2
      have HBX : Hid (∀ o o' : Obj, Below w.heap.size w ((wr.alloc o).alloc o')) := fun o o' => (HB.out.alloc hsz o).alloc (by simp; omega) o'
      clear hx hy HCL hA1 hA2 hC1 hC2
      go_upto_region 7 with fail
      go_cut [5, 6] from 13 to 78 (fun v5 v6 wx => ∃ A B, v5 = .pointer (some ⟨A, 0, none⟩) ∧ v6 = .pointer (some ⟨B, 0, none⟩) ∧ Hid (wx.heap[A]? = some (.cells #[.string xf, .int .i64 xo, .string xt] 39 (0, 0))) ∧ Hid (wx.heap[B]? = some (.cells #[.string yf, .int .i64 yo, .string yt] 39 (0, 0))) ∧ Hid (Below w.heap.size w wx))
      case first =>
        go_region
        all_goals
          go_wp2_with fail
          go_meet
        · exact ⟨wr.heap.size, wr.heap.size + 1, rfl, rfl, (Below.heap_alloc _ _ _ (by simp)).trans (heap_alloc_new wr _), (by have := heap_alloc_new (wr.alloc (.cells #[.string xf, .int .i64 xo, .string xt] 39)) (.cells #[.string yf, .int .i64 yo, .string yt] 39); rw [World.size_alloc] at this; exact this), (HBX.out _ _).drew⟩
        · exact ⟨wr.heap.size + 1, wr.heap.size, rfl, rfl, (by have := heap_alloc_new (wr.alloc (.cells #[.string yf, .int .i64 yo, .string yt] 39)) (.cells #[.string xf, .int .i64 xo, .string xt] 39); rw [World.size_alloc] at this; exact this), (Below.heap_alloc _ _ _ (by simp)).trans (heap_alloc_new wr _), (HBX.out _ _).drew⟩
      case rest =>
      obtain ⟨A, B, rfl, rfl, HA, HBB, HBC⟩ := hcut
      have x0 : wc.cell? ⟨A, 0, none⟩ = some (.string xf) := by rw [Lib.cell_of_heap HA.out]; rfl
      have x1 : wc.cell? ⟨A, 1, none⟩ = some (.int .i64 xo) := by rw [Lib.cell_of_heap HA.out]; rfl
      have x2 : wc.cell? ⟨A, 2, none⟩ = some (.string xt) := by rw [Lib.cell_of_heap HA.out]; rfl
      have y0 : wc.cell? ⟨B, 0, none⟩ = some (.string yf) := by rw [Lib.cell_of_heap HBB.out]; rfl
      have y1 : wc.cell? ⟨B, 1, none⟩ = some (.int .i64 yo) := by rw [Lib.cell_of_heap HBB.out]; rfl
      have y2 : wc.cell? ⟨B, 2, none⟩ = some (.string yt) := by rw [Lib.cell_of_heap HBB.out]; rfl
      clear a0 a1 a2 c0 c1 c2 a10 a11 a12 a20 a21 a22 c10 c11 c12 c20 c21 c22 HBX
      by_cases hn : xf = yf
      · have hq := seq_true hn
        by_cases o7 : xo = 7
        · subst o7
          by_cases q1 : yo = 1
          · subst q1
            have HV : Hid (clashM (xf, 7, xt) (yf, 1, yt) = true) := by show _ = _; unfold clashM; rw [decide_eq_true hn]; rfl
            have H0 : Hid (r = true) := HR.out.symm.trans (HNV.out HV.out)
            go_wp2_with fail
            go_ret
            exact ⟨ret_bool H0.out.symm, HBC.out⟩
          have e1 : (yo == 1) = false := beq_eq_false_iff_ne.2 q1
          by_cases q3 : yo = 3
          · subst q3
            have HV : Hid (clashM (xf, 7, xt) (yf, 3, yt) = true) := by show _ = _; unfold clashM; rw [decide_eq_true hn]; rfl
            have H0 : Hid (r = true) := HR.out.symm.trans (HNV.out HV.out)
            go_wp2_with fail
            go_ret
            exact ⟨ret_bool H0.out.symm, HBC.out⟩
          have e3 : (yo == 3) = false := beq_eq_false_iff_ne.2 q3
          by_cases q4 : yo = 4
          · subst q4
            have HV : Hid (clashM (xf, 7, xt) (yf, 4, yt) = true) := by show _ = _; unfold clashM; rw [decide_eq_true hn]; rfl
            have H0 : Hid (r = true) := HR.out.symm.trans (HNV.out HV.out)
            go_wp2_with fail
            go_ret
            exact ⟨ret_bool H0.out.symm, HBC.out⟩
          have e4 : (yo == 4) = false := beq_eq_false_iff_ne.2 q4
          by_cases q5 : yo = 5
          · subst q5
            have HV : Hid (clashM (xf, 7, xt) (yf, 5, yt) = true) := by show _ = _; unfold clashM; rw [decide_eq_true hn]; rfl
            have H0 : Hid (r = true) := HR.out.symm.trans (HNV.out HV.out)
            go_wp2_with fail
            go_ret
            exact ⟨ret_bool H0.out.symm, HBC.out⟩
          have e5 : (yo == 5) = false := beq_eq_false_iff_ne.2 q5
          by_cases q6 : yo = 6
          · subst q6
            have HV : Hid (clashM (xf, 7, xt) (yf, 6, yt) = true) := by show _ = _; unfold clashM; rw [decide_eq_true hn]; rfl
            have H0 : Hid (r = true) := HR.out.symm.trans (HNV.out HV.out)
            go_wp2_with fail
            go_ret
            exact ⟨ret_bool H0.out.symm, HBC.out⟩
          have e6 : (yo == 6) = false := beq_eq_false_iff_ne.2 q6
          have HV : Hid (clashM (xf, 7, xt) (yf, yo, yt) = false) := by show _ = _; unfold clashM; simp only [decide_eq_false q1, decide_eq_false q3, decide_eq_false q4, decide_eq_false q5, decide_eq_false q6]; rw [decide_eq_true hn]; rfl
          have HJ2 := hid (HNX.out HV.out)
          go_wp2_with fail
          go_roundg (p.length - (j + 1))
          case measure => omega
          case rel => exact ⟨j + 1, by go_num, by omega, by omega, HJ2, HBC⟩
        · have e7 : (xo == 7) = false := beq_eq_false_iff_ne.2 o7
          by_cases o1 : xo = 1
          · subst o1
            by_cases q2 : yo = 2
            · subst q2
              by_cases ht : xt = yt
              · have hq2 := seq_true ht
                have HV : Hid (clashM (xf, 1, xt) (yf, 2, yt) = true) := by show _ = _; unfold clashM; rw [decide_eq_true hn, decide_eq_true ht]; rfl
                have H0 : Hid (r = true) := HR.out.symm.trans (HNV.out HV.out)
                go_wp2_with fail
                go_ret
                exact ⟨ret_bool H0.out.symm, HBC.out⟩
              · have hq2 := seq_false ht
                have HV : Hid (clashM (xf, 1, xt) (yf, 2, yt) = false) := by show _ = _; unfold clashM; rw [decide_eq_true hn, decide_eq_false ht]; rfl
                have HJ2 := hid (HNX.out HV.out)
                go_wp2_with fail
                go_roundg (p.length - (j + 1))
                case measure => omega
                case rel => exact ⟨j + 1, by go_num, by omega, by omega, HJ2, HBC⟩
            · have e2 : (yo == 2) = false := beq_eq_false_iff_ne.2 q2
              have HV : Hid (clashM (xf, 1, xt) (yf, yo, yt) = false) := by show _ = _; unfold clashM; simp only [decide_eq_false q2]; rw [decide_eq_true hn]; rfl
              have HJ2 := hid (HNX.out HV.out)
              go_wp2_with fail
              go_roundg (p.length - (j + 1))
              case measure => omega
              case rel => exact ⟨j + 1, by go_num, by omega, by omega, HJ2, HBC⟩
          · have e1 : (xo == 1) = false := beq_eq_false_iff_ne.2 o1
            have HV : Hid (clashM (xf, xo, xt) (yf, yo, yt) = false) := by show _ = _; unfold clashM; simp only [decide_eq_false o7, decide_eq_false o1]; rw [decide_eq_true hn]; rfl
            have HJ2 := hid (HNX.out HV.out)
            go_wp2_with fail
            go_roundg (p.length - (j + 1))
            case measure => omega
            case rel => exact ⟨j + 1, by go_num, by omega, by omega, HJ2, HBC⟩
      · have hq := seq_false hn
        have HV : Hid (clashM (xf, xo, xt) (yf, yo, yt) = false) := by show _ = _; unfold clashM; rw [decide_eq_false hn]; rfl
        have HJ2 := hid (HNX.out HV.out)
        go_wp2_with fail
        go_roundg (p.length - (j + 1))
        case measure => omega
        case rel => exact ⟨j + 1, by go_num, by omega, by omega, HJ2, HBC⟩
    · have hljz : ¬ (j : Int) < (p.length : Int) := by omega
      have HI2 : Hid (∀ a b, (ha : a < p.length) → (hb : b < p.length) → a < i + 1 → clashM p[a] p[b] = false) := fun a b ha hb hai => by
        by_cases e : a = i
        · subst e; exact HJ.out b hb (by omega)
        · exact HI.out a b ha hb (by omega)
      go_wp2_with fail
      go_roundg (p.length - (i + 1))
      case measure => omega
      case rel => exact ⟨i + 1, by go_num, by omega, by omega, HI2, HB⟩
  · have hltz : ¬ (i : Int) < (p.length : Int) := by omega
    have H0 : Hid (r = false) := HR.out.symm.trans (never_no fun a b ha hb => HI.out a b ha hb (by omega))
    go_wp2_with fail
    go_ret
    exact ⟨ret_bool H0.out.symm, HB.out⟩

end Go.Proofs.YtfcjnoojcajljaaGreatDoor

/-
  What predicates mean: the plain mathematics.
-/
namespace Go.Proofs.YtfcjnoojcajljaaGreatDoor
open Go.RowKit

theorem match_append (p q : List Tm) (fs : List Fld) : matchM (p ++ q) fs = (matchM p fs && matchM q fs) := List.all_append

theorem match_nil (fs : List Fld) : matchM [] fs = true := rfl

theorem match_one (x : Tm) (fs : List Fld) : matchM [x] fs = holdsM x fs := by
  unfold matchM
  rw [List.all_cons, List.all_nil, Bool.and_true]

theorem match_same {p q : List Tm} (fs : List Fld) (h : ∀ x, x ∈ p ↔ x ∈ q) : matchM p fs = matchM q fs := by
  unfold matchM
  rw [Bool.eq_iff_iff, List.all_eq_true, List.all_eq_true]
  exact ⟨fun H x hx => H x ((h x).2 hx), fun H x hx => H x ((h x).1 hx)⟩

theorem match_norm {p : List Tm} (fs : List Fld) (h : mayM p = 0) : matchM (ansM p) fs = matchM p fs := by
  unfold ansM
  rw [if_pos h]
  exact match_same fs (sortM_spec p).2

theorem any_pos {ts : List ByteArray} {f : ByteArray → Bool} (h : ts.any f = true) : 0 < ts.length := by
  cases ts with
  | nil => simp at h
  | cons _ _ => simp

theorem clash_not {a b : Tm} (fs : List Fld) (h : clashM a b = true) (ha : holdsM a fs = true) (hb : holdsM b fs = true) : False := by
  obtain ⟨af, ao, at'⟩ := a
  obtain ⟨bf, bo, bt⟩ := b
  unfold clashM at h
  unfold holdsM at ha hb
  simp only [Bool.and_eq_true, Bool.or_eq_true, decide_eq_true_eq] at h ha hb
  obtain ⟨rfl, h⟩ := h
  generalize textsOf fs af = ts at ha hb
  rcases h with ⟨rfl, h⟩ | ⟨⟨rfl, rfl⟩, rfl⟩
  · simp [holdsT] at ha
    subst ha
    rcases h with (((rfl | rfl) | rfl) | rfl) | rfl <;> simp [holdsT] at hb
  · simp [holdsT] at ha hb
    obtain ⟨t, ht, hk⟩ := ha
    rw [hb t ht] at hk
    cases hk

theorem never_not {p : List Tm} (fs : List Fld) (h : neverM p = true) : matchM p fs = false := by
  unfold neverM at h
  rw [List.any_eq_true] at h
  obtain ⟨a, ha, h⟩ := h
  rw [List.any_eq_true] at h
  obtain ⟨b, hb, h⟩ := h
  cases hm : matchM p fs with
  | false => rfl
  | true =>
    unfold matchM at hm
    rw [List.all_eq_true] at hm
    exact (clash_not fs h (hm a ha) (hm b hb)).elim

theorem is_not (f t : ByteArray) (fs : List Fld) : holdsM (f, 2, t) fs = !holdsM (f, 1, t) fs := by simp [holdsM, holdsT]

theorem has_lacks (f : ByteArray) (fs : List Fld) : holdsM (f, 7, ⟨#[]⟩) fs = !holdsM (f, 6, ⟨#[]⟩) fs := by
  unfold holdsM holdsT
  simp only
  generalize textsOf fs f = ts
  cases ts with
  | nil => rfl
  | cons _ _ => simp

theorem is_has {f t : ByteArray} {fs : List Fld} (h : holdsM (f, 1, t) fs = true) : holdsM (f, 6, ⟨#[]⟩) fs = true := by
  unfold holdsM holdsT at *
  simp only at *
  have h1 : (textsOf fs f).any (tokenB t) = true := by simpa using h
  have := any_pos h1
  simpa using this

theorem begins_empty (s : ByteArray) : beginsB s ⟨#[]⟩ = true := by
  unfold beginsB
  rw [Bool.and_eq_true]
  refine ⟨decide_eq_true (Nat.zero_le _), ?_⟩
  rw [beq_iff_eq, Lib.toList_data, Lib.toList_data]
  have : (s.extract 0 0).data.toList.length = 0 := by simp
  exact List.length_eq_zero_iff.1 this

theorem begins_has (f : ByteArray) (fs : List Fld) : holdsM (f, 3, ⟨#[]⟩) fs = holdsM (f, 6, ⟨#[]⟩) fs := by
  unfold holdsM holdsT
  simp only
  generalize textsOf fs f = ts
  cases ts with
  | nil => rfl
  | cons t ts => simp [begins_empty]

theorem ltB_empty (s : ByteArray) : ltB s ⟨#[]⟩ = false := by
  unfold ltB
  rw [decide_eq_false_iff_not]
  cases h : s.data.toList with
  | nil => simp [Lib.compareBytes]
  | cons _ _ => simp [Lib.compareBytes]

theorem below_empty (f : ByteArray) (fs : List Fld) : holdsM (f, 4, ⟨#[]⟩) fs = false := by
  unfold holdsM holdsT
  simp [ltB_empty]

/-- Norm hangs on the terms alone, where there are not too many. -/
theorem ansM_perm {p q : List Tm} (h : ∀ x, x ∈ p ↔ x ∈ q) (hl : p.length ≤ 8) (hm : q.length ≤ 8) : mayM p = mayM q ∧ ansM p = ansM q := by
  have e := mayM_perm h hl hm
  refine ⟨e, ?_⟩
  unfold ansM
  rw [e]
  split
  · obtain ⟨s1, s2⟩ := sortM_spec p
    exact sortM_unique s1 fun x => (s2 x).trans (h x)
  · rfl

/-- Norm of the terms turned about. -/
theorem ansM_turn (p : List Tm) (k : Nat) : mayM (p.drop k ++ p.take k) = mayM p ∧ ansM (p.drop k ++ p.take k) = ansM p := by
  have hm : ∀ x, x ∈ p.drop k ++ p.take k ↔ x ∈ p := fun x => by
    conv => rhs; rw [← List.take_append_drop k p]
    rw [List.mem_append, List.mem_append, Or.comm]
  have hl : (p.drop k ++ p.take k).length = p.length := by
    rw [List.length_append, List.length_drop, List.length_take]; omega
  by_cases h8 : p.length ≤ 8
  · exact ansM_perm hm (by omega) h8
  · have e1 : mayM p = 5 := by unfold mayM; rw [if_pos (by omega)]
    have e2 : mayM (p.drop k ++ p.take k) = 5 := by unfold mayM; rw [if_pos (by omega)]
    refine ⟨e2.trans e1.symm, ?_⟩
    unfold ansM
    rw [e1, e2]
    rfl

/-- Norm with one of the terms doubled. -/
theorem ansM_double (p : List Tm) (k : Nat) (h : k < p.length) (h7 : p.length ≤ 7) : mayM (p.drop k ++ p.take k ++ [p[k]]) = mayM p ∧ ansM (p.drop k ++ p.take k ++ [p[k]]) = ansM p := by
  refine ansM_perm (fun x => ?_) (by rw [List.length_append, List.length_append, List.length_drop, List.length_take]; simp; omega) (by omega)
  conv => rhs; rw [← List.take_append_drop k p]
  rw [List.mem_append, List.mem_append, List.mem_append, List.mem_singleton]
  constructor
  · rintro ((h1 | h1) | rfl)
    · exact Or.inr h1
    · exact Or.inl h1
    · exact List.mem_append.1 (by rw [List.take_append_drop]; exact List.getElem_mem h)
  · rintro (h1 | h1)
    · exact Or.inl (Or.inr h1)
    · exact Or.inl (Or.inl h1)

/-- No term stands twice. -/
theorem ansM_apart (p : List Tm) (i : Nat) (h : i + 1 < (ansM p).length) : (ansM p)[i] ≠ (ansM p)[i + 1] := by
  have hr : RisingM (ansM p) := by
    unfold ansM
    split
    · exact (sortM_spec p).1
    · exact List.Pairwise.nil
  exact ltM_ne (List.pairwise_iff_getElem.1 hr i (i + 1) (by omega) h (by omega))

end Go.Proofs.YtfcjnoojcajljaaGreatDoor

/-
  The contracts of demands, denied and Never: a map whose keys are terms.
-/
namespace Go.Proofs.YtfcjnoojcajljaaGreatDoor
open Go.RowKit Go.Lib Go.Maps Go.MapKept Go.ChangeMaps

theorem Tryz.laidOutM : laidOutB Tryz.prog = true := by kernel_rfl
theorem Tryz.rowTrm : (39 : TypeId) < Tryz.prog.types.size := of_decide_eq_true (by kernel_rfl)
theorem Tryz.wideTrm : (match Tryz.prog.underlying 39 with | some (.array _ _) | some (.struct _) => true | _ => false) = true := by rw [Tryz.underlying39]
set_option maxRecDepth 100000 in
theorem Tryz.lawTrm : WideMaps.KeyLaw Tryz.prog 39 := deep_law_laid Tryz.laidOutM (m := 2) (by omega) Tryz.rowTrm (by kernel_rfl) Tryz.wideTrm
theorem Tryz.keyedTrm : Keyed Tryz.prog 39 := Keyed.of_law Tryz.lawTrm
theorem Tryz.keyTrm : Tryz.prog.keyType 39 = true := by kernel_rfl
theorem Tryz.cellsTrm : Tryz.prog.cellsOf 39 = 3 := by kernel_rfl
theorem Tryz.cellsStrM : Tryz.prog.cellsOf 9 = 1 := by kernel_rfl
theorem Tryz.cellsInt : Tryz.prog.cellsOf 3 = 1 := by kernel_rfl
theorem Tryz.zeroInt (w : World) : (zeroValue 3).run Tryz.prog w = .ok (.int .i64 0) w := by kernel_rfl

/-- A term that a machine can hold. -/
def Fit1 (x : Tm) : Prop := x.1.size ≤ maxLen ∧ x.2.2.size ≤ maxLen ∧ -9223372036854775808 ≤ x.2.1 ∧ x.2.1 ≤ 9223372036854775807
def valM (x : Tm) : Value := .agg #[.string x.1, .int .i64 x.2.1, .string x.2.2]

set_option maxRecDepth 100000 in
theorem key_is (x : Tm) (h : Fit1 x) : (keyOf Tryz.prog 39 (valM x)).isSome = true := by
  obtain ⟨h1, h2, h3, h4⟩ := h
  obtain ⟨m, hm⟩ : ∃ m, Tryz.prog.types.size + 1 = m + 2 := ⟨Tryz.prog.types.size - 1, by have h : (39 : Nat) < Tryz.prog.types.size := Tryz.rowTrm; omega⟩
  have hwf : (Lit.int .i64 x.2.1).wf = true := WalkArith.wf_i64 ⟨h3, h4⟩
  have hformed : (valM x).formed Tryz.prog 39 = true := by simp [valM, Value.formed, Tryz.underlying39, Tryz.cellsTrm]
  unfold keyOf
  rw [Tryz.underlying39]
  simp only [Tryz.keyTrm, hformed, Bool.and_self, if_true]
  rw [hm]
  simp only [valM, Value.cells]
  simp [Program.keyLits, Tryz.underlying39, Tryz.cellsTrm, Tryz.cellsStrM, Tryz.cellsInt, Tryz.underlying9, Tryz.underlying3, h1, h2, hwf]

/-- What a term reads as, as a key. -/
noncomputable def keyM (x : Tm) : Lit := (keyOf Tryz.prog 39 (valM x)).getD (.bool false)
theorem keyM_is {x : Tm} (h : Fit1 x) : keyOf Tryz.prog 39 (valM x) = some (keyM x) := by
  obtain ⟨l, hl⟩ := Option.isSome_iff_exists.1 (key_is x h)
  unfold keyM
  rw [hl]
  rfl
set_option maxRecDepth 100000 in
theorem keyM_inj {x y : Tm} (hx : Fit1 x) (hy : Fit1 y) (h : keyM x = keyM y) : x = y := by
  have h1 := keyM_is hx
  rw [h] at h1
  have e := Tryz.keyedTrm.inj h1 (keyM_is hy)
  obtain ⟨a, b, c⟩ := x
  obtain ⟨a', b', c'⟩ := y
  simp [valM] at e
  obtain ⟨rfl, rfl, rfl⟩ := e
  rfl

/-- Block b is a map that has f x at the term x. -/
def MapF (W : World) (b n : Nat) (f : Tm → Int) : Prop :=
  ∃ D : DataW Unit, W.ownsMap Tryz.prog 39 (plainElem Tryz.prog 3) b n D ∧ ∀ x, Fit1 x → D.atKey (keyM x) (.lit (.int .i64 0)) = .lit (.int .i64 (f x))

theorem mapF_made (w : World) : MapF (w.alloc (.map #[] 0)) w.heap.size 0 (fun _ => 0) := ⟨.map [], World.ownsMap_made _ _ _ _, fun _ _ => rfl⟩
theorem MapF.lt {W : World} {b n : Nat} {f : Tm → Int} (h : MapF W b n f) : b < W.heap.size := by obtain ⟨D, h, _⟩ := h; exact h.lt
set_option maxRecDepth 100000 in
theorem MapF.on {W W' : World} {b n : Nat} {f : Tm → Int} (h : MapF W b n f) (hb : W'.heap[b]? = W.heap[b]?) : MapF W' b n f := by
  obtain ⟨D, ⟨es, clock, h1, h2⟩, h3⟩ := h
  exact ⟨D, ⟨es, clock, hb.trans h1, h2⟩, h3⟩
theorem MapF.mono {W : World} {b n m : Nat} {f : Tm → Int} (h : MapF W b n f) (hm : n ≤ m) : MapF W b m f := by
  obtain ⟨D, h1, h3⟩ := h
  exact ⟨D, h1.mono hm, h3⟩

set_option maxRecDepth 100000 in
theorem mapF_look {W : World} {b n : Nat} {f : Tm → Int} (h : MapF W b n f) {x : Tm} (hx : Fit1 x) :
    (Instr.lookup 50 (.map (some b)) (valM x) false).run Tryz.prog W = .ok (.int .i64 (f x)) W := by
  obtain ⟨D, hD, hf⟩ := h
  obtain ⟨c, hrun, hat, _⟩ := hD.lookup_int Tryz.keyedTrm Tryz.underlying50 Tryz.underlying3 (Tryz.zeroInt _) (keyM_is hx)
  have hc : f x = c := by
    rw [hf x hx] at hat
    injection hat with hat
    injection hat with _ hat
  subst hc
  exact hrun

/-- One more at x. -/
def upd (f : Tm → Int) (x : Tm) : Tm → Int := fun y => if y = x then f x + 1 else f y

set_option maxRecDepth 100000 in
theorem mapF_put {W W' : World} {b n : Nat} {D : DataW Unit} {f : Tm → Int} {x : Tm} {c : Int} (hx : Fit1 x) (hD : W.ownsMap Tryz.prog 39 (plainElem Tryz.prog 3) b n D) (hf : ∀ x, Fit1 x → D.atKey (keyM x) (.lit (.int .i64 0)) = .lit (.int .i64 (f x)))
    (hD' : W'.ownsMap Tryz.prog 39 (plainElem Tryz.prog 3) b (n + 1) (D.put (keyM x) (.lit (.int .i64 c)))) : MapF W' b (n + 1) (fun y => if y = x then c else f y) := by
  refine ⟨_, hD', fun y hy => ?_⟩
  by_cases e : y = x
  · subst e
    show _ = DataW.lit (Lit.int .i64 (if y = y then c else f y))
    rw [if_pos rfl]
    exact atKey_put_same hD.isMap (Tryz.keyedTrm.key (keyM_is hx)) _ _
  · show _ = DataW.lit (Lit.int .i64 (if y = x then c else f y))
    rw [if_neg e]
    rw [atKey_put_other (fun h => e (keyM_inj hy hx h))]
    exact hf y hy

set_option maxRecDepth 100000 in
set_option maxHeartbeats 1000000 in
/-- x's count raised by one, in whatever order the reading and the entry's making come. -/
theorem mapF_incr {W : World} {b n : Nat} {f : Tm → Int} (h : MapF W b n f) {x : Tm} (hx : Fit1 x) (hn : n < maxLen) (h0 : 0 ≤ f x) (h1 : f x + 1 ≤ 9223372036854775807) :
    ∃ (v0 : Value) (st : Int) (W1 W2 : World), (Instr.mapEntry 50 (.map (some b)) (valM x)).run Tryz.prog W = .ok (.tuple #[v0, .int .i64 st]) W1 ∧
      (Instr.lookup 50 (.map (some b)) (valM x) false).run Tryz.prog W1 = .ok (.int .i64 (f x)) W1 ∧
      (Instr.entryStore 50 (.map (some b)) (.int .i64 st) (.int .i64 (f x + 1))).run Tryz.prog W1 = .ok () W2 ∧ MapF W2 b (n + 1) (upd f x) ∧ W.grownBy W2 (some b) ∧ ∀ a : Addr, a.block ≠ b → W1.cell? a = W.cell? a := by
  obtain ⟨D, hD, hf⟩ := h
  have hkey := keyM_is hx
  have hD0 := hD
  obtain ⟨es, clock, hb, F, hs, hDe⟩ := hD0
  obtain ⟨v0, st, es1, clock1, e1, e2, e3⟩ := Go.WideElems.entry_then_store Tryz.lawTrm Tryz.underlying50 Tryz.zeroInt hb F hkey
  -- the entry's making is a store of what is there
  have hup : (Instr.mapUpdate 50 (.map (some b)) (valM x) v0).run Tryz.prog W = .ok () (setBlock W b (.map es1 clock1)) ∧ (Instr.lookup 50 (.map (some b)) (valM x) false).run Tryz.prog W = .ok v0 W := by
    rcases Tryz.lawTrm.find W hkey es.toList F.keys with ⟨k1, k2⟩ | ⟨j, e0, k1, k2, k3⟩
    · have r : (Instr.mapEntry 50 (.map (some b)) (valM x)).run Tryz.prog W = .ok (.tuple #[.int .i64 0, goInt clock]) (setBlock W b (.map (es.push ⟨valM x, .int .i64 0, clock⟩) (clock + 1))) := by
        simp [Instr.mapEntry, run_underlying Tryz.underlying50, MapKept.run_getObj_map hb, Tryz.lawTrm.check W false hkey, k1, MapKept.run_setObj_map _ hb, Result.andThen, setBlock]
      rw [r] at e1
      injection e1 with e4 e5
      have e6 : v0 = .int .i64 0 := by simp at e4; exact e4.1.symm
      rw [← e5, e6]
      refine ⟨?_, ?_⟩
      · simp [Instr.mapUpdate, run_underlying Tryz.underlying50, MapKept.run_getObj_map hb, Tryz.lawTrm.check W false hkey, k1, MapKept.run_setObj_map _ hb, Result.andThen, setBlock]
      · simp [Instr.lookup, run_underlying Tryz.underlying50, MapKept.run_getObj_map hb, Tryz.lawTrm.check W _ hkey, k1, Result.andThen]
    · have hj : es[j]? = some e0 := by simpa using k2
      have hsame : es.modify j (fun e => { e with key := valM x }) = es := by
        apply Array.ext'
        rw [Array.toList_modify, modify_eq_set _ _ _ _ k2]
        have : ({ e0 with key := valM x } : MapEntry) = e0 := by rw [← k3]
        rw [this]
        exact Go.WideElems.set_self _ _ _ k2
      have hsame2 : es.modify j (fun e => { e with key := valM x, val := e0.val }) = es := by
        apply Array.ext'
        rw [Array.toList_modify, modify_eq_set _ _ _ _ k2]
        have : ({ e0 with key := valM x, val := e0.val } : MapEntry) = e0 := by rw [← k3]
        rw [this]
        exact Go.WideElems.set_self _ _ _ k2
      have r : (Instr.mapEntry 50 (.map (some b)) (valM x)).run Tryz.prog W = .ok (.tuple #[e0.val, goInt e0.born]) (setBlock W b (.map es clock)) := by
        simp [Instr.mapEntry, run_underlying Tryz.underlying50, MapKept.run_getObj_map hb, Tryz.lawTrm.check W false hkey, k1, hj, k3, Tryz.lawTrm.stays W hkey, hsame, MapKept.run_setObj_map _ hb, Result.andThen, setBlock]
      rw [r] at e1
      injection e1 with e4 e5
      have e6 : v0 = e0.val := by simp at e4; exact e4.1.symm
      rw [← e5, e6]
      refine ⟨?_, ?_⟩
      · simp [Instr.mapUpdate, run_underlying Tryz.underlying50, MapKept.run_getObj_map hb, Tryz.lawTrm.check W false hkey, k1, hj, k3, Tryz.lawTrm.stays W hkey, hsame2, MapKept.run_setObj_map _ hb, Result.andThen, setBlock]
      · simp [Instr.lookup, run_underlying Tryz.underlying50, MapKept.run_getObj_map hb, Tryz.lawTrm.check W _ hkey, k1, Result.andThen]
  have hv0 : v0 = .int .i64 (f x) := by
    have hl := mapF_look (W := W) ⟨D, hD, hf⟩ hx
    rw [hup.2] at hl
    injection hl
  subst hv0
  obtain ⟨w', r1, r2, r3⟩ := hD.update Tryz.keyedTrm Tryz.underlying50 hn hkey (plainElem_int (H := Unit) Tryz.underlying3 (WalkArith.wf_i64 ⟨by omega, by omega⟩ : (Lit.int .i64 (f x)).wf = true))
  rw [hup.1] at r1
  injection r1 with _ r1
  subst r1
  have hb1 : (setBlock W b (.map es1 clock1)).heap[b]? = some (.map es1 clock1) := heap_setBlock_same hb _
  obtain ⟨es', clock', s1, s2⟩ := e3 _ (.int .i64 (f x + 1)) hb1
  obtain ⟨w', t1, t2, t3⟩ := hD.update Tryz.keyedTrm Tryz.underlying50 hn hkey (plainElem_int (H := Unit) Tryz.underlying3 (WalkArith.wf_i64 ⟨by omega, by omega⟩ : (Lit.int .i64 (f x + 1)).wf = true))
  rw [s2] at t1
  injection t1 with _ t1
  subst t1
  have hl1 := mapF_look (mapF_put hx hD hf r2) hx
  rw [if_pos rfl] at hl1
  refine ⟨_, st, _, _, e1, hl1, s1, ?_, ?_, ?_⟩
  · exact (mapF_put (c := f x + 1) hx hD hf t2).on ((heap_setBlock_same hb1 _).trans (heap_setBlock_same hb _).symm)
  · refine ⟨rfl, rfl, rfl, by simp [setBlock], fun i _ hi => ?_⟩
    have hne : i ≠ b := fun e => hi (by rw [e])
    exact (heap_setBlock_other hb1 _ hne).trans (heap_setBlock_other hb _ hne)
  · intro a ha
    simp only [World.cell?]
    rw [heap_setBlock_other hb _ ha]

/-- The demand that a field has a text. -/
def hasT (x : Tm) : Tm := (x.1, 6, ⟨#[]⟩)
/-- What a term asks to be there, counted. -/
def demS (f : Tm → Int) (x : Tm) : Tm → Int := if x.2.1 = 1 then upd (upd f x) (hasT x) else if x.2.1 = 3 ∨ x.2.1 = 4 ∨ x.2.1 = 5 ∨ x.2.1 = 6 then upd f (hasT x) else f
def demF (l : List Tm) : Tm → Int := l.foldl demS fun _ => 0

theorem demF_snoc (l : List Tm) (x : Tm) : demF (l ++ [x]) = demS (demF l) x := by unfold demF; rw [List.foldl_append]; rfl

theorem demF_range (l : List Tm) : ∀ y, 0 ≤ demF l y ∧ demF l y ≤ 2 * l.length := by
  have key : ∀ (l : List Tm) (f : Tm → Int) (k : Int), (∀ y, 0 ≤ f y ∧ f y ≤ k) → ∀ y, 0 ≤ l.foldl demS f y ∧ l.foldl demS f y ≤ k + 2 * l.length := by
    intro l
    induction l with
    | nil => intro f k h y; simpa using h y
    | cons x l ih =>
      intro f k h y
      have hs : ∀ y, 0 ≤ demS f x y ∧ demS f x y ≤ k + 2 := by
        intro z
        have u1 : ∀ (g : Tm → Int) (m : Int) (a : Tm), (∀ y, 0 ≤ g y ∧ g y ≤ m) → ∀ y, 0 ≤ upd g a y ∧ upd g a y ≤ m + 1 := by
          intro g m a hg y
          unfold upd
          have h1 := hg a
          have h2 := hg y
          split <;> omega
        unfold demS
        split
        · have := u1 _ _ (hasT x) (u1 f k x h) z
          omega
        · split
          · have := u1 f k (hasT x) h z
            omega
          · have := h z
            omega
      have := ih (demS f x) (k + 2) hs y
      rw [List.foldl_cons, List.length_cons]
      omega
  intro y
  have := key l (fun _ => 0) 0 (fun _ => ⟨Int.le_refl _, Int.le_refl _⟩) y
  rw [Int.zero_add] at this
  exact this

def asksM (x : Tm) : Prop := x.2.1 = 1 ∨ x.2.1 = 3 ∨ x.2.1 = 4 ∨ x.2.1 = 5 ∨ x.2.1 = 6

theorem demF_pos (l : List Tm) (y : Tm) : 0 < demF l y ↔ ∃ x ∈ l, (x.2.1 = 1 ∧ y = x) ∨ (asksM x ∧ y = hasT x) := by
  have key : ∀ (l : List Tm) (f : Tm → Int), (∀ y, 0 ≤ f y) → (0 < l.foldl demS f y ↔ 0 < f y ∨ ∃ x ∈ l, (x.2.1 = 1 ∧ y = x) ∨ (asksM x ∧ y = hasT x)) := by
    intro l
    induction l with
    | nil => intro f h; simp
    | cons x l ih =>
      intro f h
      have u0 : ∀ (g : Tm → Int) (a : Tm), (∀ y, 0 ≤ g y) → ∀ y, 0 ≤ upd g a y := fun g a hg y => by
        unfold upd; have := hg a; have := hg y; split <;> omega
      have u1 : ∀ (g : Tm → Int) (a : Tm), (∀ y, 0 ≤ g y) → (0 < upd g a y ↔ 0 < g y ∨ y = a) := fun g a hg => by
        unfold upd
        have := hg a
        by_cases e : y = a
        · rw [if_pos e]; simp [e]; omega
        · rw [if_neg e]; simp [e]
      have hs : (∀ y, 0 ≤ demS f x y) ∧ (0 < demS f x y ↔ 0 < f y ∨ (x.2.1 = 1 ∧ y = x) ∨ (asksM x ∧ y = hasT x)) := by
        unfold demS asksM
        by_cases h1 : x.2.1 = 1
        · rw [if_pos h1]
          refine ⟨u0 _ _ (u0 _ _ h), ?_⟩
          rw [u1 _ _ (u0 _ _ h), u1 _ _ h]
          simp [h1, or_assoc]
        · rw [if_neg h1]
          by_cases h2 : x.2.1 = 3 ∨ x.2.1 = 4 ∨ x.2.1 = 5 ∨ x.2.1 = 6
          · rw [if_pos h2]
            refine ⟨u0 _ _ h, ?_⟩
            rw [u1 _ _ h]
            simp [h1, h2]
          · rw [if_neg h2]
            refine ⟨h, ?_⟩
            simp [h1, h2]
      rw [List.foldl_cons, ih _ hs.1, hs.2]
      constructor
      · rintro ((h3 | h3) | ⟨z, hz, h3⟩)
        · exact Or.inl h3
        · exact Or.inr ⟨x, by simp, h3⟩
        · exact Or.inr ⟨z, by simp [hz], h3⟩
      · rintro (h3 | ⟨z, hz, h3⟩)
        · exact Or.inl (Or.inl h3)
        · rcases List.mem_cons.1 hz with rfl | hz
          · exact Or.inl (Or.inr h3)
          · exact Or.inr ⟨z, hz, h3⟩
  have := key l (fun _ => 0) (fun _ => Int.le_refl _)
  unfold demF
  rw [this]
  simp

/-- The demand that can't be met where a term holds. -/
def denM (x : Tm) : Tm := if x.2.1 = 2 then (x.1, 1, x.2.2) else if x.2.1 = 7 then hasT x else (⟨#[]⟩, 0, ⟨#[]⟩)

theorem never_dem (p : List Tm) : (p.any fun x => decide (0 < demF p (denM x))) = neverM p := by
  rw [Bool.eq_iff_iff]
  unfold neverM
  simp only [List.any_eq_true, decide_eq_true_iff]
  constructor
  · rintro ⟨x, hx, h⟩
    obtain ⟨y, hy, h⟩ := (demF_pos p _).1 h
    unfold denM at h
    by_cases h2 : x.2.1 = 2
    · rw [if_pos h2] at h
      rcases h with ⟨h3, h4⟩ | ⟨_, h4⟩
      · refine ⟨y, hy, x, hx, ?_⟩
        rw [← h4]
        simp [clashM, h2]
      · have := congrArg (fun z => z.2.1) h4
        simp [hasT] at this
    · rw [if_neg h2] at h
      by_cases h7 : x.2.1 = 7
      · rw [if_pos h7] at h
        rcases h with ⟨h3, h4⟩ | ⟨h3, h4⟩
        · have := congrArg (fun z => z.2.1) h4
          simp [hasT, h3] at this
        · refine ⟨x, hx, y, hy, ?_⟩
          have e : x.1 = y.1 := congrArg (fun z => z.1) h4
          unfold asksM at h3
          rcases h3 with h3 | h3 | h3 | h3 | h3 <;> simp [clashM, e, h7, h3]
      · rw [if_neg h7] at h
        rcases h with ⟨h3, h4⟩ | ⟨_, h4⟩
        · rw [← h4] at h3; simp at h3
        · have := congrArg (fun z => z.2.1) h4
          simp [hasT] at this
  · rintro ⟨a, ha, b, hb, h⟩
    unfold clashM at h
    simp only [Bool.and_eq_true, Bool.or_eq_true, decide_eq_true_iff] at h
    obtain ⟨h1, ⟨h2, h3⟩ | ⟨⟨h2, h3⟩, h4⟩⟩ := h
    · refine ⟨a, ha, (demF_pos p _).2 ⟨b, hb, Or.inr ⟨?_, ?_⟩⟩⟩
      · unfold asksM
        rcases h3 with (((h3 | h3) | h3) | h3) | h3 <;> simp [h3]
      · unfold denM hasT
        rw [if_neg (by omega), if_pos h2, h1]
    · refine ⟨b, hb, (demF_pos p _).2 ⟨a, ha, Or.inl ⟨h2, ?_⟩⟩⟩
      obtain ⟨a1, a2, a3⟩ := a
      obtain ⟨b1, b2, b3⟩ := b
      simp only at h1 h2 h3 h4
      subst h1 h2 h3 h4
      simp [denM]

set_option maxHeartbeats 2000000 in
theorem denied_any (x : Tm) (w : World) : Calls Tryz.prog 37 #[valM x] w fun e w' => e = .returned (valM (denM x)) ∧ Grown w w' := by
  obtain ⟨a, o, t⟩ := x
  by_cases h2 : o = 2
  · subst h2
    have HD : Hid (denM (a, 2, t) = (a, 1, t)) := rfl
    simp only [valM]
    go_enter Tryz.func37, Tryz.ntmps37
    go_wp2_with fail
    refine bodyPost_ret (v := .agg #[.string a, .int .i64 1, .string t]) (by simp [results, Tryz.results37, go_sem]) rfl ⟨by rw [HD.out], ((Grown.refl _).alloc _).alloc _⟩
  · have n2 : (o == 2) = false := by simpa using h2
    by_cases h7 : o = 7
    · subst h7
      have HD : Hid (denM (a, 7, t) = (a, 6, ⟨#[]⟩)) := rfl
      simp only [valM]
      clear h2 n2
      go_enter Tryz.func37, Tryz.ntmps37
      go_wp2_with fail
      refine bodyPost_ret (v := .agg #[.string a, .int .i64 6, .string ⟨#[]⟩]) (by simp [results, Tryz.results37, go_sem]) rfl ⟨by rw [HD.out], ((Grown.refl _).alloc _).alloc _⟩
    · have n7 : (o == 7) = false := by simpa using h7
      have HD : Hid (denM (a, o, t) = (⟨#[]⟩, 0, ⟨#[]⟩)) := by show _ = _; unfold denM; rw [if_neg h2, if_neg h7]
      simp only [valM]
      clear h2 h7
      go_enter Tryz.func37, Tryz.ntmps37
      go_wp2_with fail
      refine bodyPost_ret (v := .agg #[.string ⟨#[]⟩, .int .i64 0, .string ⟨#[]⟩]) (by simp [results, Tryz.results37, go_sem]) rfl ⟨by rw [HD.out], ((Grown.refl _).alloc _).alloc _⟩

theorem denM_fit {x : Tm} (h : Fit1 x) : Fit1 (denM x) := by
  unfold denM hasT
  split
  · exact ⟨h.1, h.2.1, by simp, by simp⟩
  · split
    · exact ⟨h.1, Nat.zero_le _, by simp, by simp⟩
    · exact ⟨Nat.zero_le _, Nat.zero_le _, by simp, by simp⟩

set_option maxHeartbeats 4000000 in
set_option maxRecDepth 100000 in
theorem demands_any (v : Value) (p : List Tm) (w : World) (hv : KM.Is w v p) (hf : FitM p) (hl : p.length ≤ 4611686018427387900) :
    Calls Tryz.prog 35 #[v] w fun e w' => e = .returned (.map (some w.heap.size)) ∧ MapF w' w.heap.size (2 * p.length) (demF p) ∧ Below w.heap.size w w' := by
  obtain ⟨q, cap, rfl, hd⟩ := hv
  have hmm := @run_makeMap Tryz.prog
  have HD := hid hd
  have HF := hid hf
  clear hd hf
  have ST0 : Hid (MapF (w.alloc (.map #[] 0)) w.heap.size 0 (demF (p.take 0))) := mapF_made w
  go_enter Tryz.func35, Tryz.ntmps35
  go_wp2_with fail
  go_loopg [9] p.length (fun g vi wr => ∃ i : Nat, vi = .int .i64 i ∧ i ≤ p.length ∧ p.length - i ≤ g ∧ Hid (Below w.heap.size w wr) ∧ Hid (MapF wr w.heap.size (2 * i) (demF (p.take i))))
  case atStart => exact ⟨0, rfl, by omega, by omega, (Below.refl _ _).alloc (Nat.le_refl _) _, ST0⟩
  case round =>
    obtain ⟨i, rfl, hi, hg, HB, HM⟩ := hrel
    by_cases hlt : i < p.length
    · have hltz : (i : Int) < (p.length : Int) := by omega
      have hiz : (0 : Int) ≤ i := by omega
      obtain ⟨b, off, rfl, hat⟩ : ∃ b off, q = some ⟨b, off, none⟩ ∧ KM.At w b off p := by
        rcases HD.out with h | h
        · rw [h] at hlt; simp at hlt
        · exact h
      obtain ⟨c0, c1, c2⟩ := km_cells (Kind.at_kept hat HB.out) i hlt
      have hfx : Fit1 p[i] := HF.out.2 _ (List.getElem_mem hlt)
      have htk : demF (p.take (i + 1)) = demS (demF (p.take i)) p[i] := by rw [List.take_succ_eq_append_getElem hlt, demF_snoc]
      have hrg : ∀ y, 0 ≤ demF (p.take i) y ∧ demF (p.take i) y ≤ 2 * (i : Int) := fun y => by
        have := demF_range (p.take i) y
        rw [List.length_take, Nat.min_eq_left (by omega)] at this
        exact this
      obtain ⟨f, hf⟩ : ∃ f, demF (p.take i) = f := ⟨_, rfl⟩
      rw [hf] at HM htk hrg
      obtain ⟨x, hx⟩ : ∃ x, p[i] = x := ⟨_, rfl⟩
      rw [hx] at c0 c1 c2 hfx htk
      have HFX := hid hfx
      have HTK := hid htk
      have HRG := hid hrg
      have hsz := HB.out.size
      have hbl := HM.out.lt
      obtain ⟨xf, xo, xt⟩ := x
      simp only at c0 c1 c2
      clear hat hx htk hrg hf hfx
      obtain ⟨F, hF⟩ : ∃ F, wr.heap.size = F := ⟨_, rfl⟩
      obtain ⟨V, hV⟩ : ∃ V, wr.alloc (.cells #[.string xf, .int .i64 xo, .string xt] 39) = V := ⟨_, rfl⟩
      have hbox : BoxM V F (xf, xo, xt) := by rw [← hV, ← hF]; exact boxM_new wr (xf, xo, xt)
      have HVB : Hid (Below w.heap.size w V) := by rw [← hV]; exact HB.out.alloc hsz _
      have HVM : Hid (MapF V.drew w.heap.size (2 * i) f) := by
        refine HM.out.on ?_
        rw [← hV]
        exact Below.heap_alloc _ _ _ hbl
      obtain ⟨d0, d1, d2⟩ := hbox.cells
      simp only at d0 d1 d2
      have HBX := hid hbox
      clear hbox
      by_cases o1 : xo = 1
      · subst o1
        obtain ⟨v0, st, W1, W2, r1, r2, r3, hM2, hg2, hc2⟩ := mapF_incr HVM.out HFX.out (by unfold maxLen; omega) (HRG.out _).1 (by have := (HRG.out (xf, 1, xt)).2; omega)
        have r0 := mapF_look HVM.out HFX.out
        obtain ⟨c, hc⟩ : ∃ c, f (xf, 1, xt) = c := ⟨_, rfl⟩
        rw [hc] at r0 r2 r3
        have hcr : -9223372036854775808 ≤ c + 1 ∧ c + 1 ≤ 9223372036854775807 := by
          have := HRG.out (xf, 1, xt); rw [hc] at this; omega
        simp only [valM] at r0 r1 r2 r3
        have hnF : F ≠ w.heap.size := by omega
        have hbx2 : BoxM W2 F (xf, 1, xt) := (hg2.block F HBX.out.lt (fun e => hnF (Option.some.inj e))).trans HBX.out
        have hhf : Fit1 (hasT (xf, 1, xt)) := ⟨HFX.out.1, Nat.zero_le _, by simp [hasT], by simp [hasT]⟩
        have hM2d : MapF W2.drew w.heap.size (2 * i + 1) (upd f (xf, 1, xt)) := hM2.on rfl
        have hug : ∀ y, 0 ≤ upd f (xf, 1, xt) y ∧ upd f (xf, 1, xt) y ≤ 2 * (i : Int) + 1 := fun y => by
          have h1 := HRG.out (xf, 1, xt)
          have h2 := HRG.out y
          unfold upd
          split <;> omega
        obtain ⟨v3, st3, W3, W4, t1, t2, t3, hM4, hg4, _⟩ := mapF_incr hM2d hhf (by unfold maxLen; omega) (hug _).1 (by have := (hug (hasT (xf, 1, xt))).2; omega)
        have t0 := mapF_look hM2d hhf
        obtain ⟨e, he⟩ : ∃ e, upd f (xf, 1, xt) (hasT (xf, 1, xt)) = e := ⟨_, rfl⟩
        rw [he] at t0 t2 t3
        have her : -9223372036854775808 ≤ e + 1 ∧ e + 1 ≤ 9223372036854775807 := by
          have := hug (hasT (xf, 1, xt)); rw [he] at this; omega
        simp only [valM, hasT] at t0 t1 t2 t3
        obtain ⟨g0, g1, g2⟩ := hbx2.cells
        simp only at g0 g1 g2
        have HFIN : Hid (MapF W4 w.heap.size (2 * (i + 1)) (demF (p.take (i + 1))) ∧ Below w.heap.size w W4) := by
          refine ⟨?_, ?_⟩
          · rw [HTK.out]
            unfold demS
            rw [if_pos rfl]
            exact hM4.mono (by omega)
          · have h1 : Below w.heap.size w W2 := HVB.out.drew.grown hg2 HVB.out.size (fun k e => by cases e; exact Nat.le_refl _)
            exact h1.drew.grown hg4 h1.size (fun k e => by cases e; exact Nat.le_refl _)
        clear hM2 hg2 hc hc2 hM2d hhf hug hM4 hg4 he hbx2
        go_wp2_with fail
        go_region
        go_wp2_with fail
        go_region
        go_wp2_with fail
        go_roundg (p.length - (i + 1))
        case measure => omega
        exact ⟨i + 1, by go_num, by omega, by omega, HFIN.out.2, HFIN.out.1⟩
      · by_cases o3 : xo = 3 ∨ xo = 4 ∨ xo = 5 ∨ xo = 6
        · have hhf : Fit1 (hasT (xf, xo, xt)) := ⟨HFX.out.1, Nat.zero_le _, by simp [hasT], by simp [hasT]⟩
          obtain ⟨v3, st3, W3, W4, t1, t2, t3, hM4, hg4, _⟩ := mapF_incr HVM.out hhf (by unfold maxLen; omega) (HRG.out _).1 (by have := (HRG.out (hasT (xf, xo, xt))).2; omega)
          have t0 := mapF_look HVM.out hhf
          obtain ⟨e, he⟩ : ∃ e, f (hasT (xf, xo, xt)) = e := ⟨_, rfl⟩
          rw [he] at t0 t2 t3
          have her : -9223372036854775808 ≤ e + 1 ∧ e + 1 ≤ 9223372036854775807 := by
            have := HRG.out (hasT (xf, xo, xt)); rw [he] at this; omega
          simp only [valM, hasT] at t0 t1 t2 t3
          have HFIN : Hid (MapF W4 w.heap.size (2 * (i + 1)) (demF (p.take (i + 1))) ∧ Below w.heap.size w W4) := by
            refine ⟨?_, HVB.out.drew.grown hg4 HVB.out.size (fun k e => by cases e; exact Nat.le_refl _)⟩
            rw [HTK.out]
            unfold demS
            rw [if_neg o1, if_pos o3]
            exact hM4.mono (by omega)
          clear hhf hM4 hg4 he o1
          rcases o3 with rfl | rfl | rfl | rfl <;>
          · go_wp2_with fail
            go_region
            go_wp2_with fail
            go_roundg (p.length - (i + 1))
            case measure => omega
            exact ⟨i + 1, by go_num, by omega, by omega, HFIN.out.2, HFIN.out.1⟩
        · have n1 : (xo == 1) = false := by simpa using o1
          have n3 : (xo == 3) = false := by simp; omega
          have n4 : (xo == 4) = false := by simp; omega
          have n5 : (xo == 5) = false := by simp; omega
          have n6 : (xo == 6) = false := by simp; omega
          have HFIN : Hid (MapF V w.heap.size (2 * (i + 1)) (demF (p.take (i + 1)))) := by
            show MapF _ _ _ _
            rw [HTK.out]
            unfold demS
            rw [if_neg o1, if_neg o3]
            exact HVM.out.mono (by omega)
          clear o1 o3
          go_wp2_with fail
          go_roundg (p.length - (i + 1))
          case measure => omega
          exact ⟨i + 1, by go_num, by omega, by omega, HVB.out, HFIN.out⟩
    · have hltz : ¬ (i : Int) < (p.length : Int) := by omega
      have hi' : i = p.length := by omega
      subst hi'
      have HM' : Hid (MapF wr w.heap.size (2 * p.length) (demF p)) := by have := HM.out; rwa [List.take_length] at this
      go_wp2_with fail
      go_ret
      exact ⟨rfl, HM'.out, HB.out⟩

set_option maxHeartbeats 2000000 in
set_option maxRecDepth 100000 in
theorem never1_any (G b n : Nat) (f : Tm → Int) (x : Tm) (W : World) (hG : W.heap[G]? = some (.cells #[.map (some b)] 50 (0, 0))) (hM : MapF W b n f) (hx : Fit1 x) :
    Calls Tryz.prog 36 #[.agg (encM x).toArray, .pointer (some ⟨G, 0, none⟩)] W fun e w' => e = .returned (.bool (decide (0 < f (denM x)))) ∧ Below W.heap.size W w' := by
  obtain ⟨V, hV⟩ : ∃ V, W.alloc (.cells #[.string x.1, .int .i64 x.2.1, .string x.2.2] 39) = V := ⟨_, rfl⟩
  obtain ⟨F, hF⟩ : ∃ F, W.heap.size = F := ⟨_, rfl⟩
  have hbV : Below W.heap.size W V := by rw [← hV]; exact (Below.refl _ _).alloc (Nat.le_refl _) _
  have hbox : BoxM V F x := by rw [← hV, ← hF]; exact boxM_new W x
  have hGl : G < W.heap.size := (Array.getElem?_eq_some_iff.1 hG).1
  have KS : Hid (∀ w' : World, Below V.drew.heap.size V.drew w' → w'.cell? ⟨G, 0, none⟩ = some (.map (some b)) ∧ w'.cell? ⟨F, 0, none⟩ = some (.string x.1) ∧ w'.cell? ⟨F, 1, none⟩ = some (.int .i64 x.2.1) ∧ w'.cell? ⟨F, 2, none⟩ = some (.string x.2.2) ∧ (Instr.lookup 50 (.map (some b)) (valM (denM x)) false).run Tryz.prog w' = .ok (.int .i64 (f (denM x))) w') := fun w' h => by
    have h1 : w'.heap[G]? = W.heap[G]? := (h.block G (Nat.lt_of_lt_of_le hGl hbV.size)).trans (hbV.block G hGl)
    have h2 : w'.heap[b]? = W.heap[b]? := (h.block b (Nat.lt_of_lt_of_le hM.lt hbV.size)).trans (hbV.block b hM.lt)
    refine ⟨by rw [Lib.cell_of_heap (h1.trans hG)]; rfl, (BoxM.on (w := V.drew) hbox h).cells.1, (BoxM.on (w := V.drew) hbox h).cells.2.1, (BoxM.on (w := V.drew) hbox h).cells.2.2, mapF_look (hM.on h2) (denM_fit hx)⟩
  have HD := hid (denied_any x)
  obtain ⟨y, hy⟩ : ∃ y, denM x = y := ⟨_, rfl⟩
  rw [hy] at KS HD ⊢
  obtain ⟨c, hc⟩ : ∃ c, f y = c := ⟨_, rfl⟩
  rw [hc] at KS ⊢
  have q0 := KS.out V.drew (Below.refl _ _)
  have HBV := hid hbV
  obtain ⟨xf, xo, xt⟩ := x
  obtain ⟨yf, yo, yt⟩ := y
  simp only [encM, valM] at *
  clear hG hM hx hbV hbox hy hc
  go_enter Tryz.func36, Tryz.ntmps36
  go_wp2_with fail
  go_region_held3 (fun w' => w'.cell? ⟨G, 0, none⟩ = some (.map (some b)) ∧ w'.cell? ⟨F, 0, none⟩ = some (.string xf) ∧ w'.cell? ⟨F, 1, none⟩ = some (.int .i64 xo) ∧ w'.cell? ⟨F, 2, none⟩ = some (.string xt) ∧ (Instr.lookup 50 (.map (some b)) (.agg #[.string yf, .int .i64 yo, .string yt]) false).run Tryz.prog w' = .ok (.int .i64 c) w')
    (first | exact q0 | exact q5)
    (first | (go_at_call 37; refine (HD.out _).mono ?_; rintro e w5 ⟨rfl, hg5⟩; have q5 := KS.out w5 hg5.below))
  all_goals
    go_wp2_with fail
    go_ret
    rw [← hF]
    exact ⟨rfl, bel_then HBV.out.drew HBV.out.drew.size hg5.below⟩

theorem enters_never1 : ∀ args w, (callFunc 36 args).run Tryz.prog w = .ok (.enter 36 args) w := enters_of Tryz.func36 (by kernel_rfl) rfl

set_option maxHeartbeats 2000000 in
set_option maxRecDepth 100000 in
theorem pnever_any (v : Value) (p : List Tm) (w : World) (hv : KM.Is w v p) (hf : FitM p) (hl : p.length ≤ 4611686018427387900) :
    Calls Tryz.prog 16 #[v] w fun e w' => e = .returned (.bool (neverM p)) ∧ Below w.heap.size w w' := by
  have hmf : ∀ (fn : Fn) (first cap : Array Value) (w : World), (Instr.makeFunc fn first cap).run Tryz.prog w = .ok (.func fn first cap) w := fun _ _ _ _ => rfl
  have HDM := hid (demands_any v p w hv hf hl)
  have HV := hid hv
  have HF := hid hf
  have HN := hid (never_dem p)
  clear hv hf
  go_enter Tryz.func16, Tryz.ntmps16
  have HCF : Hid (∀ w1 : World, MapF w1 w.heap.size (2 * p.length) (demF p) → Below w.heap.size w w1 → Calls Tryz.prog 29 #[v, .func (.func 36) #[] #[.pointer (some ⟨w1.heap.size, 0, none⟩)]] (w1.alloc (.cells #[.map (some w.heap.size)] 50)) fun e w' => e = .returned (.bool (neverM p)) ∧ Below (w1.alloc (.cells #[.map (some w.heap.size)] 50)).heap.size (w1.alloc (.cells #[.map (some w.heap.size)] 50)) w') := fun w1 hM hb1 => by
    have hnew : Below w1.heap.size w1 (w1.alloc (.cells #[.map (some w.heap.size)] 50)) := (Below.refl _ _).alloc (Nat.le_refl _) _
    have hG := heap_alloc_new w1 (.cells #[.map (some w.heap.size)] 50)
    have := hasM_any (fun x => decide (0 < demF p (denM x))) 36 #[.pointer (some ⟨w1.heap.size, 0, none⟩)] enters_never1 v p _ (Kind.is_kept HV.out (bel_then hb1 hb1.size hnew)) HF.out (fun W x hb h1 h2 h3 => by
      refine (never1_any w1.heap.size w.heap.size (2 * p.length) (demF p) x W ((hb.block _ (by simp)).trans hG) ((hM.on (hnew.block _ hM.lt)).on (hb.block _ (Nat.lt_of_lt_of_le hM.lt hnew.size))) ⟨h1, h2, h3⟩).mono ?_
      rintro e w' ⟨h4, h5⟩
      exact ⟨h4, hb.trans (h5.mono hb.size)⟩)
    rwa [HN.out] at this
  go_wp2_with (first
    | (go_at_call 35; refine HDM.out.mono ?_; rintro e w1 ⟨rfl, hM, hb1⟩; have HM := hid hM; clear hM)
    | (go_at_call 29; refine (HCF.out w1 HM.out hb1).mono ?_; rintro e w2 ⟨rfl, hb2⟩))
  go_ret
  exact ⟨rfl, bel_then (hb1.alloc hb1.size _) (hb1.alloc hb1.size _).size hb2⟩

end Go.Proofs.YtfcjnoojcajljaaGreatDoor

/-
  The contracts of word and Print of terms.
-/
namespace Go.Proofs.YtfcjnoojcajljaaGreatDoor
open Go.RowKit Go.Lib

set_option maxHeartbeats 4000000 in
set_option maxRecDepth 100000 in
theorem word_term (x : Tm) (w : World) (hp : PlainAt w) (h1 : 1 ≤ x.2.1 ∧ x.2.1 ≤ 7) (h2 : x.1.size ≤ 32) (h3 : x.2.2.size ≤ 128) :
    Calls Tryz.prog 41 #[.agg #[.string x.1, .int .i64 x.2.1, .string x.2.2]] w fun e w' => e = .returned (.string (wordM x)) ∧ Below w.heap.size w w' := by
  obtain ⟨xf, xo, xt⟩ := x
  simp only at h1 h2 h3 ⊢
  obtain ⟨W, hW⟩ : ∃ W, w.alloc (.cells #[.string xf, .int .i64 xo, .string xt] 39) = W := ⟨_, rfl⟩
  obtain ⟨F, hF⟩ : ∃ F, w.heap.size = F := ⟨_, rfl⟩
  have hbw : Below w.heap.size w W := by rw [← hW]; exact (Below.refl _ _).alloc (Nat.le_refl _) _
  have hbox : BoxM W F (xf, xo, xt) := by rw [← hW, ← hF]; exact boxM_new w (xf, xo, xt)
  have hwl2 := writeL_len xt.data.toList
  have hwl3 : xt.data.toList.length = xt.size := by simp
  have HW := hid (write_any xt W.drew (hp.on hbw.drew) (by omega))
  obtain ⟨wt, hwt⟩ : ∃ wt : ByteArray, ⟨(writeL xt.data.toList).toArray⟩ = wt := ⟨_, rfl⟩
  have hwts : wt.size ≤ 384 := by rw [← hwt]; show (writeL xt.data.toList).toArray.size ≤ 384; rw [List.size_toArray]; omega
  rw [hwt] at HW
  obtain ⟨S2, hS2⟩ : ∃ S2 : ByteArray, xf ++ ⟨#[opC xo]⟩ = S2 := ⟨_, rfl⟩
  have hS2s : S2.size ≤ 33 := by rw [← hS2, ByteArray.size_append]; show _ + 1 ≤ _; omega
  obtain ⟨S4, hS4⟩ : ∃ S4 : ByteArray, S2 ++ wt = S4 := ⟨_, rfl⟩
  have HV : Hid (wordM (xf, xo, xt) = S4) := by show _ = _; rw [← hS4, ← hS2, ← hwt]; rfl
  have hA : ∀ w, Sem.run Tryz.prog (Op.stringOp .add xf ⟨#[opC xo]⟩) w = .ok (.string S2) w := fun w => by rw [← hS2]; exact run_string_add_sum _ _ _ (by show xf.size + 1 ≤ _; omega)
  have hC : ∀ w, Sem.run Tryz.prog (Op.stringOp .add S2 wt) w = .ok (.string S4) w := fun w => by rw [← hS4]; exact run_string_add_sum _ _ _ (by omega)
  obtain ⟨m, hm7, hxo⟩ : ∃ m : Nat, m < 7 ∧ xo = m + 1 := ⟨(xo - 1).toNat, by omega, by omega⟩
  have hw : IntKind.i64.wrap (xo - 1) = (m : Int) := by rw [hxo]; rw [show (m : Int) + 1 - 1 = m by omega]; exact wrap_i64 _ (by omega) (by omega)
  have hm0 : (0 : Int) ≤ m := by omega
  have hm7z : (m : Int) < 7 := by omega
  have hsg := sign_at m hm7
  rw [← hxo] at hsg
  have hA2 : ∀ w, Sem.run Tryz.prog (Op.stringOp .add xf (Utf8.encode (((⟨#[61, 33, 94, 60, 62, 63, 45]⟩ : ByteArray)[m]'hm7).toNat : Int))) w = .ok (.string S2) w := by rw [hsg]; exact hA
  obtain ⟨c0, c1, c2⟩ := hbox.cells
  have KS : Hid (∀ w' : World, Below W.drew.heap.size W.drew w' → w'.cell? ⟨F, 0, none⟩ = some (.string xf) ∧ w'.cell? ⟨F, 2, none⟩ = some (.string xt)) := fun w' h => ⟨(BoxM.on (w := W.drew) hbox h).cells.1, (BoxM.on (w := W.drew) hbox h).cells.2.2⟩
  have HBW := hid hbw
  simp only at c0 c1 c2
  clear hwl2 hwl3 hwt hS2 hS4 hwts hS2s h1 h2 h3 hp hA hxo hsg hbox hbw
  go_enter Tryz.func41, Tryz.ntmps41
  rw [hF]
  go_wp2_with fail
  go_region_held3 (fun w' => w'.cell? ⟨F, 0, none⟩ = some (.string xf) ∧ w'.cell? ⟨F, 2, none⟩ = some (.string xt))
    (first | exact ⟨c0, c2⟩ | exact q2)
    (first | (go_at_call 68; refine HW.out.mono ?_; rintro o w2 ⟨rfl, hb2⟩; have q2 := KS.out _ hb2))
  all_goals
    go_wp2_with fail
    go_ret
    rw [← hF]
    exact ⟨by rw [HV.out]; rfl, bel_then HBW.out.drew HBW.out.drew.size hb2⟩

set_option maxHeartbeats 8000000 in
set_option maxRecDepth 100000 in
theorem pprint_any (v : Value) (p : List Tm) (w : World) (hp : PlainAt w) (hv : KM.Is w v p) (hf : FitM p) :
    Calls Tryz.prog 20 #[v] w fun e w' => e = .returned (.tuple #[.string (lineM (ansM p)), .int .i64 (mayM p)]) ∧ Below w.heap.size w w' := by
  obtain ⟨i0, hi0, hz0, hz1, hz2⟩ := info_parts Tryz.infoStr
  have HI := hid hi0
  have HN := hid (pnorm_any v p w hv hf)
  have HP := hid hp
  clear hv hf hp hi0
  by_cases hm : mayM p = 0
  · have HAL := hid (fun x hx => ansM_all (p := p) x hx)
    have hal := ansM_len p
    have HM := hid hm
    obtain ⟨G, hG⟩ : ∃ G, ansM p = G := ⟨_, rfl⟩
    rw [hG] at HAL hal
    have HG := hid hG
    clear hm hG
    go_enter Tryz.func20, Tryz.ntmps20
    go_wp2_with (first | (go_at_call 10; refine HN.out.mono ?_; rintro e w1 ⟨⟨u, he, ho⟩, hb1⟩; rw [HM.out] at he; subst he; rw [HG.out] at ho; obtain ⟨p5, c5, hu, hd⟩ := Kind.own_is ho; subst hu; have HD := hid hd; have HB1 := hid hb1; have HP1 := hid (HP.out.on hb1); clear ho hd hb1))
    go_loopg [6, 19] G.length (fun g vs vi wr => ∃ i : Nat, vi = .int .i64 i ∧ i ≤ G.length ∧ G.length - i ≤ g ∧ Hid (Below w1.heap.size w1 wr) ∧ Hid (OwnT w1.heap.size wr vs ((G.take i).map wordM)))
    case atStart => exact ⟨0, rfl, by omega, by omega, Below.refl _ _, World.ownsRow_nil _ _ _ _⟩
    case round =>
      obtain ⟨i, rfl, hi, hgk, HB, HO⟩ := hrel
      by_cases hlt : i < G.length
      · have hltz : (i : Int) < (G.length : Int) := by omega
        have hiz : (0 : Int) ≤ i := by omega
        obtain ⟨b, off, rfl, hat⟩ : ∃ b off, p5 = some ⟨b, off, none⟩ ∧ KM.At w1 b off G := by
          rcases HD.out with h | h
          · subst h; simp at hlt
          · exact h
        obtain ⟨c0, c1, c2⟩ := km_cells (Kind.at_kept hat HB.out) i hlt
        obtain ⟨hn, hr, hs⟩ := HAL.out _ (List.getElem_mem hlt)
        have hor := rightM_range hr
        have hns := fieldB_len hn
        have hss := of_decide_eq_true hs
        have htk : (G.take (i + 1)).map wordM = (G.take i).map wordM ++ [wordM G[i]] := by
          rw [List.take_succ_eq_append_getElem hlt, List.map_append]; simp
        have hns2 : (G[i]).1.size ≤ 32 := by simpa using hns
        have hal2 : ((G.take i).map wordM).length = i := by rw [List.length_map, List.length_take]; omega
        obtain ⟨x, hx⟩ : ∃ x, G[i] = x := ⟨_, rfl⟩
        rw [hx] at c0 c1 c2 hor hns2 hss htk
        have HWT : Hid (∀ W, Below w1.heap.size w1 W → Calls Tryz.prog 41 #[.agg #[.string x.1, .int .i64 x.2.1, .string x.2.2]] W fun e w' => e = .returned (.string (wordM x)) ∧ Below W.heap.size W w') := fun W hb => word_term x W (HP1.out.on hb) hor hns2 hss
        obtain ⟨acc, hacc⟩ : ∃ acc, (G.take i).map wordM = acc := ⟨_, rfl⟩
        rw [hacc] at HO htk hal2
        obtain ⟨wd, hwd⟩ : ∃ wd, wordM x = wd := ⟨_, rfl⟩
        rw [hwd] at HWT htk
        have HTK := hid htk
        have HAC := hid hal2
        have hal3 : acc.length ≤ 8 := by omega
        have hsz := HB.out.size
        obtain ⟨xf, xo, xt⟩ := x
        simp only at c0 c1 c2 HWT
        clear hat hn hr hs hx htk hns hss hor hns2 hwd hacc hal2
        go_wp2_with (first
          | (at_builtin; refine wpList_append_own _ rfl _ _ 41 rfl w1.heap.size 9 i0 (.string ⟨#[]⟩) 1 16 Tryz.underlying41 HI.out hz0 hz1 hz2 rfl (by decide) _ _ _ rfl HO3.out _ 1 1 [.string wd] rfl rfl (by intro j u hj; match j, hj with | 0, hj => simp at hj; subst hj; simp [Addr.add]) (by intro u hu; simp at hu; subst hu; rfl) (by unfold maxLen; omega) (by omega) (by have := hb2.size; simp at this ⊢; omega) ?_; intro v4 w4 hown4 hg4 hnil4; have HO4 := hid hown4; have HG4 := hid hg4; clear hown4 hg4 hnil4)
          | (go_at_call 41; refine (HWT.out _ (HB.out.alloc hsz _)).mono ?_; rintro e w2 ⟨rfl, hb2⟩; have HO3 : Hid (OwnT w1.heap.size (w2.alloc (.cells #[.string wd] 9)) _ acc) := hid ((OwnT.on (OwnT.on HO.out ((Below.refl _ wr).alloc (Nat.le_refl _) _)) hb2).on ((Below.refl _ _).alloc (Nat.le_refl _) _))))
        go_roundg (G.length - (i + 1))
        case measure => omega
        refine ⟨i + 1, by go_num, by omega, by omega, ?_, ?_⟩
        · have hb3 : Below w1.heap.size w1 (w2.alloc (.cells #[.string wd] 9)) := (bel_then (HB.out.alloc hsz _) (HB.out.alloc hsz _).size hb2).alloc (Nat.le_trans (HB.out.alloc hsz _).size hb2.size) _
          exact hb3.grown HG4.out hb3.size (fun k hk => (World.ownsRow.lt HO3.out k hk).1)
        · rw [HTK.out]
          show OwnT _ _ _ _
          unfold OwnT
          rw [List.length_append, List.map_append]
          exact HO4.out
      · have hltz : ¬ (i : Int) < (G.length : Int) := by omega
        have htk2 : G.take i = G := List.take_of_length_le (by omega)
        rw [htk2] at HO
        have hws : ∀ y ∈ G.map wordM, y.size ≤ 417 := fun y hy => by
          obtain ⟨t, ht, rfl⟩ := List.mem_map.1 hy
          obtain ⟨a, _, c⟩ := HAL.out t ht
          exact wordM_len a c
        have hwl : (G.map wordM).length ≤ 128 := by rw [List.length_map]; omega
        obtain ⟨ws, hwe⟩ : ∃ ws, G.map wordM = ws := ⟨_, rfl⟩
        have HLN : Hid (lineM G = ⟨(Lib.join (ws.map (·.data.toList)) [32]).toArray⟩) := by show _ = _; rw [← hwe]; rfl
        rw [hwe] at HO hws hwl
        clear htk2 hwe
        obtain ⟨p4, cap4, hv4⟩ := own_slice HO.out
        subst hv4
        have HJ := hid (join_any ws p4 cap4 wr HO.out hwl hws)
        clear hws hwl
        go_wp2_with (first | (go_at_call 42; refine HJ.out.mono ?_; rintro e w2 ⟨rfl, hb2⟩))
        go_ret2
        exact ⟨by rw [HM.out, HG.out, HLN.out]; rfl, bel_then (bel_then HB1.out HB1.out.size HB.out) (bel_then HB1.out HB1.out.size HB.out).size hb2⟩
  · have hne : (mayM p != 0) = true := by rw [bne_iff_ne]; exact hm
    have HA : Hid (ansM p = []) := by show _ = _; unfold ansM; rw [if_neg hm]
    obtain ⟨r, hr⟩ : ∃ r, mayM p = r := ⟨_, rfl⟩
    rw [hr] at hne
    have HR := hid hr
    clear hm hr
    go_enter Tryz.func20, Tryz.ntmps20
    go_wp2_with (first | (go_at_call 10; refine HN.out.mono ?_; rintro e w1 ⟨⟨u, he, ho⟩, hb1⟩; rw [HR.out] at he; subst he; clear ho))
    go_ret2
    exact ⟨by rw [HR.out, HA.out]; rfl, hb1⟩

end Go.Proofs.YtfcjnoojcajljaaGreatDoor

/-
  fixed of chapter 4 answers true.
-/
namespace Go.Proofs.YtfcjnoojcajljaaGreatDoor
open Go.RowKit Go.Lib

/-- A literal row of terms. -/
theorem lit_terms {w : World} {b : Nat} {cs : Array Value} {d : List Tm} {n cap : Nat} (h : w.heap[b]? = some (.cells cs 39 (0, 0))) (hcs : cs.toList = KM.cells d) (hn : n = d.length) : KM.Is w (.slice (some ⟨b, 0, none⟩) n cap) d := by
  subst hn
  refine ⟨_, _, rfl, Or.inr ⟨b, 0, rfl, fun i hi j u hu => ?_⟩⟩
  have hj : j < 3 := by
    have := (List.getElem?_eq_some_iff.1 hu).1
    rwa [KM.len] at this
  rw [Nat.zero_add, cell_of_row w b _ cs _ _ h, ← Array.getElem?_toList, hcs, KM.cells_get d i hi j hj]
  exact hu

theorem litX_row {w : World} {b : Nat} {cs : Array Value} {T : TypeId} {d : List Fx} {n cap : Nat} (h : w.heap[b]? = some (.cells cs T (0, 0))) (hcs : cs.toList = cellsX d) (hn : n = d.length) (ht : ∀ x ∈ d, x.at w) : IsXs w (.slice (some ⟨b, 0, none⟩) n cap) d := by
  subst hn
  refine ⟨_, _, rfl, Or.inr ⟨b, 0, rfl, fun i hi => ?_⟩, ht⟩
  obtain ⟨c0, c1⟩ := cellsX_get d i hi
  rw [Nat.zero_add, cell_of_row w b _ cs _ _ h, cell_of_row w b _ cs _ _ h, ← Array.getElem?_toList, ← Array.getElem?_toList, hcs]
  exact ⟨c0, c1⟩

theorem litX_txt {w : World} {b : Nat} {cs : Array Value} {T : TypeId} {ts : List ByteArray} (h : w.heap[b]? = some (.cells cs T (0, 0))) (hcs : cs.toList = ts.map Value.string) : TxtAt w (some ⟨b, 0, none⟩) ts := by
  refine Or.inr ⟨b, 0, rfl, fun i hi => ?_⟩
  rw [Nat.zero_add, cell_of_row w b i cs _ _ h, ← Array.getElem?_toList, hcs]
  simp [hi]

def exA : ByteArray := ⟨#[97]⟩
def exB : ByteArray := ⟨#[98]⟩
def exX : ByteArray := ⟨#[120]⟩
def exV : List Fld := [(exA, [exX, ⟨#[109, 114, 110, 124, 55]⟩]), (exB, [⟨#[49]⟩])]
def exP : List Tm := [(exB, 6, ⟨#[]⟩), (exA, 1, exX), (exA, 1, exX)]
def exQ : List Tm := [(exB, 6, ⟨#[]⟩), (exA, 1, exX)]
def exN : List Tm := [(exA, 1, exX), (exB, 6, ⟨#[]⟩)]

theorem exP_line : (lineM exP).data.toList = [98, 63, 32, 97, 61, 120, 32, 97, 61, 120] := by decide
theorem exP_terms : termsW (wordsAns [98, 63, 32, 97, 61, 120, 32, 97, 61, 120]) = some exP := by
  rw [← exP_line]
  exact lineM_back exP (by decide)
theorem exP_may : mayM exP = 0 := by decide
theorem exP_ans : ansM exP = exN := by decide
theorem exQ_may : mayM exQ = 0 := by decide
theorem exQ_ans : ansM exQ = exN := by decide
theorem exN_may : mayM exN = 0 := by decide
theorem exN_ans : ansM exN = exN := by decide
theorem exN_line : lineM exN = ⟨#[97, 61, 120, 32, 98, 63]⟩ := by decide
theorem exT : tokenB exX exX = true := by rw [tokenB_bare exX (by decide), toList_eq]; decide
theorem exN_match : matchM exN exV = true := by
  have h1 : holdsM (exA, 1, exX) exV = true := by
    unfold holdsM holdsT
    rw [if_pos rfl, show textsOf exV exA = [exX, ⟨#[109, 114, 110, 124, 55]⟩] from by decide, List.any_cons, exT]
    rfl
  have h2 : holdsM (exB, 6, ⟨#[]⟩) exV = true := by decide
  unfold matchM exN
  simp only [List.all_cons, List.all_nil, h1, h2]
  rfl
theorem exL_match : matchM [(exB, 7, ⟨#[]⟩)] exV = false := by decide
theorem exZ_may : mayM [(⟨#[]⟩, 0, ⟨#[]⟩)] = 2 := by decide
theorem ex_never : neverM [(exA, 7, ⟨#[]⟩), (exA, 6, ⟨#[]⟩)] = true := by decide

theorem fitM_small (p : List Tm) (h : (decide (p.length ≤ 100) && p.all (fun x => decide (x.1.size ≤ 100) && decide (x.2.2.size ≤ 100) && decide (-100 ≤ x.2.1) && decide (x.2.1 ≤ 100))) = true) : FitM p := by
  rw [Bool.and_eq_true] at h
  refine ⟨Nat.le_trans (of_decide_eq_true h.1) (by decide), fun x hx => ?_⟩
  have := List.all_eq_true.1 h.2 x hx
  simp only [Bool.and_eq_true, decide_eq_true_eq] at this
  exact ⟨Nat.le_trans this.1.1.1 (by decide), Nat.le_trans this.1.1.2 (by decide), by omega, by omega⟩

/-- The example's value, as it lies. -/
def exD (b : Nat) : List Fx := [⟨exA, some ⟨b, 0, none⟩, 2, [exX, ⟨#[109, 114, 110, 124, 55]⟩]⟩, ⟨exB, some ⟨b + 1, 0, none⟩, 1, [⟨#[49]⟩]⟩]

theorem exD_is (w : World) : IsXs (((w.alloc (.cells #[.string ⟨#[120]⟩, .string ⟨#[109, 114, 110, 124, 55]⟩] 9)).alloc (.cells #[.string ⟨#[49]⟩] 9)).alloc (.cells #[.string ⟨#[97]⟩, .slice (some ⟨w.heap.size, 0, none⟩) 2 2, .string ⟨#[98]⟩, .slice (some ⟨w.heap.size + 1, 0, none⟩) 1 1] 43)) (.slice (some ⟨w.heap.size + 1 + 1, 0, none⟩) 2 2) (exD w.heap.size) := by
  obtain ⟨w1, h1⟩ : ∃ w1, w.alloc (.cells #[.string ⟨#[120]⟩, .string ⟨#[109, 114, 110, 124, 55]⟩] 9) = w1 := ⟨_, rfl⟩
  obtain ⟨w2, h2⟩ : ∃ w2, w1.alloc (.cells #[.string ⟨#[49]⟩] 9) = w2 := ⟨_, rfl⟩
  have s1 : w1.heap.size = w.heap.size + 1 := by rw [← h1]; simp
  have s2 : w2.heap.size = w.heap.size + 1 + 1 := by rw [← h2]; simp; omega
  have g1 : w1.heap[w.heap.size]? = some (.cells #[.string ⟨#[120]⟩, .string ⟨#[109, 114, 110, 124, 55]⟩] 9 (0, 0)) := by rw [← h1]; exact heap_alloc_new w _
  have g2 : w2.heap[w.heap.size + 1]? = some (.cells #[.string ⟨#[49]⟩] 9 (0, 0)) := by rw [← h2, ← s1]; exact heap_alloc_new w1 _
  have g12 : w2.heap[w.heap.size]? = some (.cells #[.string ⟨#[120]⟩, .string ⟨#[109, 114, 110, 124, 55]⟩] 9 (0, 0)) := by rw [← h2, Below.heap_alloc _ _ _ (by omega)]; exact g1
  rw [h1, h2]
  have h3 := heap_alloc_new w2 (.cells #[.string ⟨#[97]⟩, .slice (some ⟨w.heap.size, 0, none⟩) 2 2, .string ⟨#[98]⟩, .slice (some ⟨w.heap.size + 1, 0, none⟩) 1 1] 43)
  rw [s2] at h3
  refine litX_row h3 rfl rfl (fun x hx => ?_)
  simp only [exD, List.mem_cons, List.not_mem_nil, or_false] at hx
  rcases hx with rfl | rfl
  · exact litX_txt ((Below.heap_alloc _ _ _ (by omega)).trans g12) rfl
  · exact litX_txt ((Below.heap_alloc _ _ _ (by omega)).trans g2) rfl

theorem exD_fit (b : Nat) : FitX (exD b) := by
  refine ⟨by simp [exD, maxLen], fun x hx => ?_⟩
  simp only [exD, List.mem_cons, List.not_mem_nil, or_false] at hx
  rcases hx with rfl | rfl
  · refine ⟨show exA.size ≤ maxLen by decide, show 2 ≤ maxLen by decide, fun t ht => ?_⟩
    simp [Fx.fld] at ht
    rcases ht with rfl | rfl <;> decide
  · refine ⟨show exB.size ≤ maxLen by decide, show 1 ≤ maxLen by decide, fun t ht => ?_⟩
    simp [Fx.fld] at ht
    subst ht
    decide

theorem exD_16 (b : Nat) : ∀ x ∈ exD b, x.txt.length * 16 ≤ 140737488355328 := fun x hx => by
  simp only [exD, List.mem_cons, List.not_mem_nil, or_false] at hx
  rcases hx with rfl | rfl
  · show 2 * 16 ≤ _; decide
  · show 1 * 16 ≤ _; decide

/-- An answer of Norm or Parse that is a row of two terms. -/
theorem own_two {n0 : Nat} {w : World} {u : Value} (h : KM.Own n0 w u exN) : ∃ q c, u = .slice q 2 c := Kind.own_shape h

set_option maxHeartbeats 8000000 in
set_option maxRecDepth 100000 in
theorem pfixed_any (w : World) (hp : PlainAt w) : Calls Tryz.prog 9 #[] w fun e w' => e = .returned (.bool true) ∧ Below w.heap.size w w' := by
  have HP := hid hp
  have HXD := hid (exD_is w)
  have hb0 : Below w.heap.size w (((w.alloc (.cells #[.string ⟨#[120]⟩, .string ⟨#[109, 114, 110, 124, 55]⟩] 9)).alloc (.cells #[.string ⟨#[49]⟩] 9)).alloc (.cells #[.string ⟨#[97]⟩, .slice (some ⟨w.heap.size, 0, none⟩) 2 2, .string ⟨#[98]⟩, .slice (some ⟨w.heap.size + 1, 0, none⟩) 1 1] 43)) := (((Below.refl _ w).alloc (Nat.le_refl _) _).alloc (by simp) _).alloc (by simp; omega) _
  obtain ⟨W0, hW0⟩ : ∃ W0, ((w.alloc (.cells #[.string ⟨#[120]⟩, .string ⟨#[109, 114, 110, 124, 55]⟩] 9)).alloc (.cells #[.string ⟨#[49]⟩] 9)).alloc (.cells #[.string ⟨#[97]⟩, .slice (some ⟨w.heap.size, 0, none⟩) 2 2, .string ⟨#[98]⟩, .slice (some ⟨w.heap.size + 1, 0, none⟩) 1 1] 43) = W0 := ⟨_, rfl⟩
  rw [hW0] at HXD hb0
  have HB0 := hid hb0
  clear hp hb0
  go_enter Tryz.func9, Tryz.ntmps9
  go_wp2_with fail
  refine (pparse_any ⟨#[98, 63, 32, 97, 61, 120, 32, 97, 61, 120]⟩ W0 (HP.out.on HB0.out) (by decide)).mono ?_
  rintro e w1 ⟨⟨u1, he, o1⟩, q1⟩
  rw [exP_terms] at he o1
  have he2 : e = .returned (.tuple #[u1, .int .i64 0]) := he
  have o1' : KM.Own W0.heap.size w1 u1 exN := o1
  obtain ⟨p1, c1, rfl⟩ := own_two o1'
  subst he2
  have HO1 := hid o1'
  have B1 : Hid (Below W0.heap.size W0 w1) := q1
  clear he o1 o1' q1
  have B1w : Hid (Below w.heap.size w w1) := HB0.out.trans (B1.out.mono HB0.out.size)
  go_wp2_with fail
  refine (pprint_any _ exN w1 (HP.out.on B1w.out) (Kind.own_is HO1.out) (fitM_small _ (by decide))).mono ?_
  rintro e w2 ⟨he, q2⟩
  rw [exN_may, exN_ans, exN_line] at he
  subst he
  have B2 : Hid (Below w1.heap.size w1 w2) := q2
  clear q2
  go_wp2_with fail
  have hx2 : KM.Is (w2.alloc (.cells #[.string ⟨#[98]⟩, .int .i64 6, .string ⟨#[]⟩, .string ⟨#[97]⟩, .int .i64 1, .string ⟨#[120]⟩] 39)) (.slice (some ⟨w2.heap.size, 0, none⟩) 2 2) exQ := lit_terms (heap_alloc_new w2 _) rfl rfl
  have N2 : Hid (Below w1.heap.size w1 (w2.alloc (.cells #[.string ⟨#[98]⟩, .int .i64 6, .string ⟨#[]⟩, .string ⟨#[97]⟩, .int .i64 1, .string ⟨#[120]⟩] 39))) := B2.out.alloc B2.out.size _
  refine (pnorm_any _ exQ _ hx2 (fitM_small _ (by decide))).mono ?_
  rintro e w3 ⟨⟨u3, he, o3⟩, q3⟩
  rw [exQ_may] at he
  rw [exQ_ans] at o3
  obtain ⟨p3, c3, rfl⟩ := own_two o3
  subst he
  have HO3 := hid o3
  have B3 : Hid (Below w1.heap.size w1 w3) := bel_then N2.out N2.out.size q3
  have HI1 : Hid (∀ W, Below w1.heap.size w1 W → KM.Is W (.slice p1 2 c1) exN) := fun W h => Kind.own_is (Kind.own_on HO1.out h)
  have HXV : Hid (∀ W, Below w1.heap.size w1 W → IsXs W (.slice (some ⟨w.heap.size + 1 + 1, 0, none⟩) 2 2) (exD w.heap.size)) := fun W h => HXD.out.kept (bel_then B1.out B1.out.size h)
  clear hx2 o3 q3 N2
  go_wp2_with fail
  refine (pmatch_any _ _ exN (exD w.heap.size) w3 (HI1.out _ B3.out) (fitM_small _ (by decide)) (HXV.out _ B3.out) (exD_fit _) (exD_16 _)).mono ?_
  rintro e w4 ⟨he, q4⟩
  rw [show (exD w.heap.size).map Fx.fld = exV from rfl, exN_match] at he
  subst he
  have B4 : Hid (Below w1.heap.size w1 w4) := bel_then B3.out B3.out.size q4
  have S4 : Hid (Below w3.heap.size w3 w4) := q4
  clear q4
  go_wp2_with fail
  have hx4 : KM.Is (w4.alloc (.cells #[.string ⟨#[98]⟩, .int .i64 7, .string ⟨#[]⟩] 39)) (.slice (some ⟨w4.heap.size, 0, none⟩) 1 1) [(exB, 7, ⟨#[]⟩)] := lit_terms (heap_alloc_new w4 _) rfl rfl
  have N4 : Hid (Below w1.heap.size w1 (w4.alloc (.cells #[.string ⟨#[98]⟩, .int .i64 7, .string ⟨#[]⟩] 39)) ∧ Below w3.heap.size w3 (w4.alloc (.cells #[.string ⟨#[98]⟩, .int .i64 7, .string ⟨#[]⟩] 39))) := ⟨B4.out.alloc B4.out.size _, S4.out.alloc S4.out.size _⟩
  refine (pmatch_any _ _ [(exB, 7, ⟨#[]⟩)] (exD w.heap.size) _ hx4 (fitM_small _ (by decide)) (HXV.out _ N4.out.1) (exD_fit _) (exD_16 _)).mono ?_
  rintro e w5 ⟨he, q5⟩
  rw [show (exD w.heap.size).map Fx.fld = exV from rfl, exL_match] at he
  subst he
  have B5 : Hid (Below w1.heap.size w1 w5) := bel_then N4.out.1 N4.out.1.size q5
  have S5 : Hid (Below w3.heap.size w3 w5) := bel_then N4.out.2 N4.out.2.size q5
  clear q5 hx4 N4
  go_wp2_with fail
  refine (pequal_any _ _ exN exN w5 (HI1.out _ B5.out) (Kind.own_is (Kind.own_on HO3.out S5.out)) (by decide) (by decide)).mono ?_
  rintro e w6 ⟨he, q6⟩
  rw [decide_eq_true rfl] at he
  subst he
  have B6 : Hid (Below w1.heap.size w1 w6) := bel_then B5.out B5.out.size q6
  clear q6
  go_wp2_with fail
  refine (pmay_any _ exN w6 (HI1.out _ B6.out) (fitM_small _ (by decide))).mono ?_
  rintro e w7 ⟨he, q7⟩
  rw [exN_may] at he
  subst he
  have B7 : Hid (Below w1.heap.size w1 w7) := bel_then B6.out B6.out.size q7
  clear q7
  go_wp2_with fail
  have hx7 : KM.Is (w7.alloc (.cells #[.string ⟨#[]⟩, .int .i64 0, .string ⟨#[]⟩] 39)) (.slice (some ⟨w7.heap.size, 0, none⟩) 1 1) [(⟨#[]⟩, 0, ⟨#[]⟩)] := lit_terms (heap_alloc_new w7 _) rfl rfl
  have N7 : Hid (Below w1.heap.size w1 (w7.alloc (.cells #[.string ⟨#[]⟩, .int .i64 0, .string ⟨#[]⟩] 39))) := B7.out.alloc B7.out.size _
  refine (pmay_any _ [(⟨#[]⟩, 0, ⟨#[]⟩)] _ hx7 (fitM_small _ (by decide))).mono ?_
  rintro e w8 ⟨he, q8⟩
  rw [exZ_may] at he
  subst he
  have B8 : Hid (Below w1.heap.size w1 w8) := bel_then N7.out N7.out.size q8
  clear q8 hx7 N7
  go_wp2_with fail
  have hx8 : KM.Is (w8.alloc (.cells #[.string ⟨#[97]⟩, .int .i64 7, .string ⟨#[]⟩, .string ⟨#[97]⟩, .int .i64 6, .string ⟨#[]⟩] 39)) (.slice (some ⟨w8.heap.size, 0, none⟩) 2 2) [(exA, 7, ⟨#[]⟩), (exA, 6, ⟨#[]⟩)] := lit_terms (heap_alloc_new w8 _) rfl rfl
  have N8 : Hid (Below w1.heap.size w1 (w8.alloc (.cells #[.string ⟨#[97]⟩, .int .i64 7, .string ⟨#[]⟩, .string ⟨#[97]⟩, .int .i64 6, .string ⟨#[]⟩] 39))) := B8.out.alloc B8.out.size _
  refine (pnever_any _ [(exA, 7, ⟨#[]⟩), (exA, 6, ⟨#[]⟩)] _ hx8 (fitM_small _ (by decide)) (by decide)).mono ?_
  rintro e w9 ⟨he, q9⟩
  rw [ex_never] at he
  subst he
  have B9 : Hid (Below w1.heap.size w1 w9) := bel_then N8.out N8.out.size q9
  clear q9 hx8 N8
  go_wp2_with fail
  go_ret
  exact ⟨rfl, bel_then B1w.out B1w.out.size B9.out⟩

end Go.Proofs.YtfcjnoojcajljaaGreatDoor

/-
  The laws of predicates: what they ask of the program's functions, and the walks of PredNorms and PredParses.
-/
namespace Go.Proofs.YtfcjnoojcajljaaGreatDoor
open Go.RowKit Go.Lib

/-- What the program's functions answer, in worlds that are S. -/
structure Said (S : World → Prop) : Prop where
  on : ∀ w w', S w → Below w.heap.size w w' → S w'
  fixed : ∀ w, S w → Calls Tryz.prog 9 #[] w fun e w' => e = .returned (.bool true) ∧ Below w.heap.size w w'
  norm : ∀ v p w, S w → KM.Is w v p → FitM p → Calls Tryz.prog 10 #[v] w fun e w' => NMPost w p e w'
  may : ∀ v p w, S w → KM.Is w v p → FitM p → Calls Tryz.prog 13 #[v] w fun e w' => e = .returned (.int .i64 (mayM p)) ∧ Below w.heap.size w w'
  equal : ∀ v u p q w, S w → KM.Is w v p → KM.Is w u q → p.length ≤ maxLen → q.length ≤ maxLen → Calls Tryz.prog 15 #[v, u] w fun e w' => e = .returned (.bool (decide (p = q))) ∧ Below w.heap.size w w'
  never : ∀ v p w, S w → KM.Is w v p → FitM p → p.length ≤ 4611686018427387900 → Calls Tryz.prog 16 #[v] w fun e w' => e = .returned (.bool (neverM p)) ∧ Below w.heap.size w w'
  print : ∀ v p w, S w → KM.Is w v p → FitM p → Calls Tryz.prog 20 #[v] w fun e w' => e = .returned (.tuple #[.string (lineM (ansM p)), .int .i64 (mayM p)]) ∧ Below w.heap.size w w'
  parse : ∀ s w, S w → s.size ≤ 4294967000 → Calls Tryz.prog 22 #[.string s] w fun e w' => TWPost w (termsW (wordsAns s.data.toList)) e w'

theorem ansW_len (o : Option (List Tm)) : (ansW o).length ≤ 8 := by
  cases o with
  | none => simp [ansW]
  | some p => exact ansM_len p

theorem int_same (n : Int) : (n == n) = true := by simp

set_option maxHeartbeats 4000000 in
set_option maxRecDepth 100000 in
theorem pparses_any {S : World → Prop} (H : Said S) (s : ByteArray) (w : World) (hS : S w) (hs : s.size ≤ 4294967000) :
    Calls Tryz.prog 6 #[.string s] w fun e w' => e = .returned (.bool true) ∧ Below w.heap.size w w' := by
  have HH := hid H
  have HS := hid hS
  have hcc := int_same (codeW (termsW (wordsAns s.data.toList)))
  obtain ⟨C, hC⟩ : ∃ C, codeW (termsW (wordsAns s.data.toList)) = C := ⟨_, rfl⟩
  have HC := hid hC
  rw [hC] at hcc
  clear H hS hC
  go_enter Tryz.func6, Tryz.ntmps6
  go_wp2_with (first
    | (go_at_call 9; refine (HH.out.fixed _ HS.out).mono ?_; rintro e w1 ⟨rfl, q1⟩)
    | (go_at_call 22; refine (HH.out.parse s w1 (HH.out.on _ _ HS.out q1) hs).mono ?_; rintro e w2 ⟨⟨u2, he, o2⟩, q2⟩; rw [HC.out] at he; subst he; have b2 : Below w.heap.size w w2 := bel_then q1 q1.size q2; have O2 := hid o2; clear o2)
    | (go_at_call 23; refine (rparseM_any s w2 (by omega)).mono ?_; rintro e w3 ⟨⟨u3, he, o3⟩, q3⟩; rw [HC.out] at he; subst he; have b3 : Below w.heap.size w w3 := bel_then b2 b2.size q3; have HSM := hid (rsameM_any u2 u3 _ _ w3 (Kind.own_is (Kind.own_on O2.out q3)) (Kind.own_is o3) (Nat.le_trans (ansW_len _) (by decide))); rw [decide_eq_true rfl] at HSM; clear o3)
    | (go_at_call 12; refine HSM.out.mono ?_; rintro e w4 ⟨rfl, n, rfl⟩))
  go_ret
  exact ⟨rfl, bel_drewN b3 n⟩

set_option maxHeartbeats 4000000 in
set_option maxRecDepth 100000 in
theorem pnorms_any {S : World → Prop} (H : Said S) (v u : Value) (p q : List Tm) (w : World) (hS : S w) (hv : KM.Is w v p) (hu : KM.Is w u q) (hf : FitM p) (hl : q.length ≤ maxLen) (h4 : p.length ≤ 4611686018427387900) :
    Calls Tryz.prog 3 #[v, u] w fun e w' => e = .returned (.bool true) ∧ Below w.heap.size w w' := by
  have HH := hid H
  have HS := hid hS
  have HV := hid hv
  have HU := hid hu
  have HF := hid hf
  have HL := hid hl
  obtain ⟨M, hM⟩ : ∃ M, mayM p = M := ⟨_, rfl⟩
  have HM := hid hM
  have hmm := int_same M
  obtain ⟨B, hB⟩ : ∃ B, decide (p = q) = B := ⟨_, rfl⟩
  have HB := hid hB
  have hbb := bool_same B
  obtain ⟨D, hD⟩ : ∃ D, neverM p = D := ⟨_, rfl⟩
  have HD := hid hD
  have hdd := bool_same D
  clear H hS hv hu hf hl hM hB hD
  go_enter Tryz.func3, Tryz.ntmps3
  go_wp2_with (first
    | (go_at_call 9; refine (HH.out.fixed _ HS.out).mono ?_; rintro e w1 ⟨rfl, q1⟩)
    | (go_at_call 10; refine (HH.out.norm v p w1 (HH.out.on _ _ HS.out q1) (Kind.is_kept HV.out q1) HF.out).mono ?_; rintro e w2 ⟨⟨u2, he, o2⟩, q2⟩; rw [HM.out] at he; subst he; have b2 : Below w.heap.size w w2 := bel_then q1 q1.size q2; have O2 := hid o2; clear o2)
    | (go_at_call 11; refine (rnormM_any v p w2 (Kind.is_kept HV.out b2) HF.out).mono ?_; rintro e w3 ⟨⟨u3, he, o3⟩, q3⟩; rw [HM.out] at he; subst he; have b3 : Below w.heap.size w w3 := bel_then b2 b2.size q3; have HSM := hid (rsameM_any u2 u3 _ _ w3 (Kind.own_is (Kind.own_on O2.out q3)) (Kind.own_is o3) (Nat.le_trans (ansM_len _) (by decide))); rw [decide_eq_true rfl] at HSM; clear o3)
    | (go_at_call 12; refine HSM.out.mono ?_; rintro e w4 ⟨rfl, n, rfl⟩; clear HSM; have b4 : Below w.heap.size w (w3.drewN n) := bel_drewN b3 n; have HMY := hid (HH.out.may v p _ (HH.out.on _ _ HS.out b4) (Kind.is_kept HV.out b4) HF.out); rw [HM.out] at HMY)
    | (go_at_call 13; refine HMY.out.mono ?_; rintro e w5 ⟨rfl, q5⟩; have b5 : Below w.heap.size w w5 := bel_then b4 b4.size q5; have HRY := hid ((rmayM_any v p w5 (Kind.is_kept HV.out b5) HF.out).mono fun e w' h => And.intro h.1 h.2.symm); rw [HM.out] at HRY; have HE1 := hid (HH.out.equal v u p q w5 (HH.out.on _ _ HS.out b5) (Kind.is_kept HV.out b5) (Kind.is_kept HU.out b5) HF.out.1 HL.out); rw [HB.out] at HE1)
    | (go_at_call 14; refine HRY.out.mono ?_; rintro e w9 ⟨rfl, rfl⟩)
    | (go_at_call 15; refine HE1.out.mono ?_; rintro e w6 ⟨rfl, q6⟩; clear HE1; have b6 : Below w.heap.size w w6 := bel_then b5 b5.size q6; have HSQ := hid (rsameM_any v u p q w6 (Kind.is_kept HV.out b6) (Kind.is_kept HU.out b6) HF.out.1); rw [HB.out] at HSQ)
    | (go_at_call 12; refine HSQ.out.mono ?_; rintro e w7 ⟨rfl, m, rfl⟩; clear HSQ; have b7 : Below w.heap.size w (w6.drewN m) := bel_drewN b6 m; have HE2 := hid (HH.out.equal v v p p _ (HH.out.on _ _ HS.out b7) (Kind.is_kept HV.out b7) (Kind.is_kept HV.out b7) HF.out.1 HF.out.1); rw [decide_eq_true rfl] at HE2)
    | (go_at_call 15; refine HE2.out.mono ?_; rintro e w8 ⟨rfl, q8⟩; clear HE2; have b8 : Below w.heap.size w w8 := bel_then b7 b7.size q8; have HN1 := hid (HH.out.never v p w8 (HH.out.on _ _ HS.out b8) (Kind.is_kept HV.out b8) HF.out h4); rw [HD.out] at HN1)
    | (go_at_call 16; refine HN1.out.mono ?_; rintro e w9 ⟨rfl, q9⟩; have b9 : Below w.heap.size w w9 := bel_then b8 b8.size q9; have HN2 := hid (rnever_any v p w9 (Kind.is_kept HV.out b9) HF.out.1); rw [HD.out] at HN2)
    | (go_at_call 17; refine HN2.out.mono ?_; rintro e w10 ⟨rfl, q10⟩))
  go_ret
  exact ⟨rfl, bel_then b9 b9.size q10⟩

theorem lineM_size (p : List Tm) : (lineM (ansM p)).size ≤ 83600 := by
  refine lineB_size (by have := ansM_len p; simp; omega) fun y hy => ?_
  obtain ⟨x, hx, rfl⟩ := List.mem_map.1 hy
  exact wordM_len (ansM_all x hx).1 (ansM_all x hx).2.2

set_option maxHeartbeats 4000000 in
set_option maxRecDepth 100000 in
theorem plines_any {S : World → Prop} (H : Said S) (v : Value) (p : List Tm) (w : World) (hS : S w) (hv : KM.Is w v p) (hf : FitM p) :
    Calls Tryz.prog 5 #[v] w fun e w' => e = .returned (.bool true) ∧ Below w.heap.size w w' := by
  have HH := hid H
  have HS := hid hS
  have HV := hid hv
  have HF := hid hf
  have HLP : Hid (mayM p = 0 → codeW (termsW (wordsAns (lineM (ansM p)).data.toList)) = 0 ∧ ansW (termsW (wordsAns (lineM (ansM p)).data.toList)) = ansM p) := fun h => lineM_parsed h
  have HLE : Hid (mayM p ≠ 0 → lineM (ansM p) = ⟨#[]⟩) := fun h => by unfold ansM; rw [if_neg h]; rfl
  have hls := lineM_size p
  obtain ⟨L, hL⟩ : ∃ L, lineM (ansM p) = L := ⟨_, rfl⟩
  rw [hL] at HLP HLE hls
  have HL := hid hL
  have hLL := seq_true (rfl : L = L)
  clear H hS hv hf hL
  by_cases h0 : mayM p = 0
  · have HM := hid h0
    obtain ⟨e1, e2⟩ := HLP.out h0
    have HC := hid e1
    have HA := hid e2
    clear h0 e1 e2
    go_enter Tryz.func5, Tryz.ntmps5
    go_wp2_with (first
      | (go_at_call 9; refine (HH.out.fixed _ HS.out).mono ?_; rintro e w1 ⟨rfl, q1⟩)
      | (go_at_call 20; refine (HH.out.print v p w1 (HH.out.on _ _ HS.out q1) (Kind.is_kept HV.out q1) HF.out).mono ?_; rintro e w2 ⟨he, q2⟩; rw [HM.out, HL.out] at he; subst he; have b2 : Below w.heap.size w w2 := bel_then q1 q1.size q2)
      | (go_at_call 21; refine (rprintM_any v p w2 (Kind.is_kept HV.out b2) HF.out).mono ?_; rintro e w3 ⟨he, q3⟩; rw [HM.out, HL.out] at he; subst he; have b3 : Below w.heap.size w w3 := bel_then b2 b2.size q3)
      | (go_at_call 10; refine (HH.out.norm v p w3 (HH.out.on _ _ HS.out b3) (Kind.is_kept HV.out b3) HF.out).mono ?_; rintro e w4 ⟨⟨u4, he, o4⟩, q4⟩; rw [HM.out] at he; subst he; have b4 : Below w.heap.size w w4 := bel_then b3 b3.size q4; have O4 := hid o4; clear o4)
      | (go_at_call 22; refine (HH.out.parse L w4 (HH.out.on _ _ HS.out b4) (by omega)).mono ?_; rintro e w5 ⟨⟨u5, he, o5⟩, q5⟩; rw [HC.out] at he; rw [HA.out] at o5; subst he; have b5 : Below w.heap.size w w5 := bel_then b4 b4.size q5; have O5 := hid o5; have HE := hid (HH.out.equal u5 u4 _ _ w5 (HH.out.on _ _ HS.out b5) (Kind.own_is o5) (Kind.own_is (Kind.own_on O4.out q5)) (Nat.le_trans (ansM_len _) (by decide)) (Nat.le_trans (ansM_len _) (by decide))); rw [decide_eq_true rfl] at HE; have OO := hid (Kind.own_on O4.out q5); clear o5)
      | (go_at_call 15; refine HE.out.mono ?_; rintro e w6 ⟨rfl, q6⟩; have b6 : Below w.heap.size w w6 := bel_then b5 b5.size q6; have HSM := hid (rsameM_any u5 u4 _ _ w6 (Kind.own_is (Kind.own_on O5.out q6)) (Kind.own_is (Kind.own_on OO.out q6)) (Nat.le_trans (ansM_len _) (by decide))); rw [decide_eq_true rfl] at HSM)
      | (go_at_call 12; refine HSM.out.mono ?_; rintro e w7 ⟨rfl, n, rfl⟩))
    go_ret
    exact ⟨rfl, bel_drewN b6 n⟩
  · have hE := HLE.out h0
    subst hE
    obtain ⟨M, hM⟩ : ∃ M, mayM p = M := ⟨_, rfl⟩
    have HM := hid hM
    rw [hM] at h0
    have hne : (M != 0) = true := by rw [bne_iff_ne]; exact h0
    have hmm : (M != M) = false := by simp
    clear hM h0 HLP HLE
    go_enter Tryz.func5, Tryz.ntmps5
    go_wp2_with (first
      | (go_at_call 9; refine (HH.out.fixed _ HS.out).mono ?_; rintro e w1 ⟨rfl, q1⟩)
      | (go_at_call 20; refine (HH.out.print v p w1 (HH.out.on _ _ HS.out q1) (Kind.is_kept HV.out q1) HF.out).mono ?_; rintro e w2 ⟨he, q2⟩; rw [HM.out, HL.out] at he; subst he; have b2 : Below w.heap.size w w2 := bel_then q1 q1.size q2)
      | (go_at_call 21; refine (rprintM_any v p w2 (Kind.is_kept HV.out b2) HF.out).mono ?_; rintro e w3 ⟨he, q3⟩; rw [HM.out, HL.out] at he; subst he; have b3 : Below w.heap.size w w3 := bel_then b2 b2.size q3))
    go_ret
    exact ⟨rfl, b3⟩

/-- What the program's functions answer, where the variables lie as the text lays them. -/
theorem said : Said PlainAt where
  on := fun _ _ h hb => h.on hb
  fixed := pfixed_any
  norm := fun v p w _ hv hf => pnorm_any v p w hv hf
  may := fun v p w _ hv hf => pmay_any v p w hv hf
  equal := fun v u p q w _ hv hu h1 h2 => pequal_any v u p q w hv hu h1 h2
  never := fun v p w _ hv hf h4 => pnever_any v p w hv hf h4
  print := fun v p w hp hv hf => pprint_any v p w hp hv hf
  parse := fun s w hp hs => pparse_any s w hp hs

end Go.Proofs.YtfcjnoojcajljaaGreatDoor
