/-
  Texts of this claim, one behind the other: Pc2 Pc3 Cut Tok Rtok Equ Sam Tex App Rp3 Pc5 Rp5 Pla Txt Fst Txr Txh Enc0 Enc Rmay Siz Renc Rea Wrd Stba Stbb Sor Joa.
-/
import Derived.Test.YtfcjnoojcajljaaGreatDoorPa
import Derived.Deep.QuietTactic
import Derived.BigQuiet
import Derived.Shelf.SlicesQ.Equal
import Derived.Shelf.SlicesQ.IndexFunc
import Derived.Lib.Strings
import Derived.Deep.RegionHeld3
import Derived.Lib.AppendStr
import Derived.Sort.LotA
import Derived.Shelf.SlSortCmp.KitK
/-
  The contract of slices.Compact at terms.
-/
namespace Go.Proofs.YtfcjnoojcajljaaGreatDoor
open Go.RowKit Go.Sort Go.Lib

theorem eql_term (a b : Tm) (w : World) : (binOp .eql 39 (.agg #[.string a.1, .int .i64 a.2.1, .string a.2.2]) (.agg #[.string b.1, .int .i64 b.2.1, .string b.2.2])).run Tryz.prog w = .ok (.bool (decide (a = b))) w := by
  obtain ⟨a1, a2, a3⟩ := a
  obtain ⟨b1, b2, b3⟩ := b
  have hS : Tryz.prog.underlying 39 = some (.struct (Tryz.prog.fieldsOf 39)) := by kernel_rfl
  have hp : Tryz.prog.stoodInHeld 39 = false := by kernel_rfl
  have u9 := Tryz.underlying9
  have a9 := Tryz.isAgg9
  have z9 := Tryz.sizeOf9
  have u3 := Tryz.underlying3
  have a3' := Tryz.isAgg3
  have z3 := Tryz.sizeOf3
  rw [run_eql_struct, show (10000 : Nat) = 9999 + 1 from rfl, run_equalIn_agg w 9999 39 _ _ hS hp]
  simp only [Program.fieldsOf, Tryz.underlying39]
  go_simp
  by_cases h1 : a1 = b1
  · subst h1
    by_cases h2 : a2 = b2
    · subst h2
      by_cases h3 : a3 = b3
      · subst h3; simp
      · have e3 := beq_eq_false_iff_ne.1 (seq_false h3)
        simp [h3, e3]
    · simp [h2]
  · have e1 := beq_eq_false_iff_ne.1 (seq_false h1)
    simp [h1, e1]

/-- clear of terms in a row. -/
theorem run_clearM (w : World) (ty : TypeId) (g o n c : Nat) (hn : 0 < n) (hc : ∀ j, j < n * 3 → (w.cell? ⟨g, o + j, none⟩).isSome = true) (hf : ∀ j, j < n * 3 → w.frozen? ⟨g, o + j, none⟩ = false) :
    ∃ zs : List Value, (Builtin.clear_ #[22] ty #[.slice (some ⟨g, o, none⟩) n c]).run Tryz.prog w = .ok (.tuple #[]) (w.setCells g o zs) := by
  have hv : ∀ w, (zeroValue 39).run Tryz.prog w = .ok (.agg #[.string ⟨#[]⟩, .int .i64 0, .string ⟨#[]⟩]) w := Tryz.zeroValue39
  obtain ⟨zs, hzs⟩ : ∃ zs, (Builtin.zeroCells (Value.agg #[.string ⟨#[]⟩, .int .i64 0, .string ⟨#[]⟩]).cells n).toList = zs := ⟨_, rfl⟩
  have hl : zs.length = n * 3 := by rw [← hzs, Array.length_toList, size_zeroCells]; rfl
  have h1 : ∀ v ∈ zs, v.oneCell' = true := by
    intro v hm
    rw [← hzs] at hm
    simp only [Builtin.zeroCells, Array.toList_map, List.mem_map] at hm
    obtain ⟨i, _, rfl⟩ := hm
    have h3 : i % (Value.agg #[.string ⟨#[]⟩, .int .i64 0, .string ⟨#[]⟩]).cells.size < 3 := Nat.mod_lt _ (by decide)
    obtain ⟨m, hm⟩ : ∃ m, i % (Value.agg #[.string ⟨#[]⟩, .int .i64 0, .string ⟨#[]⟩]).cells.size = m := ⟨_, rfl⟩
    rw [hm] at h3 ⊢
    rcases (show m = 0 ∨ m = 1 ∨ m = 2 by omega) with rfl | rfl | rfl <;> rfl
  refine ⟨zs, ?_⟩
  have hst := run_storeCells_cells (P := Tryz.prog) g o zs 0 w (by rw [hl]; simpa using hc) (by rw [hl]; simpa using hf) h1
  simp only [Nat.add_zero] at hst
  obtain ⟨m, rfl⟩ : ∃ m, n = m + 1 := ⟨n - 1, by omega⟩
  simp [Builtin.clear_, run_underlying Tryz.underlying22, hv, hzs, hst]

/-- A row's cells, at any place. -/
theorem own_cells {n0 g n cap : Nat} {w : World} {d : Array Tm} (h : KM.Own n0 w (.slice (some ⟨g, 0, none⟩) n cap) d.toList) (i : Nat) (hi : i < d.size) :
    w.cell? ⟨g, i * 3, none⟩ = some (.string (d[i]!).1) ∧ w.cell? ⟨g, i * 3 + 1, none⟩ = some (.int .i64 (d[i]!).2.1) ∧ w.cell? ⟨g, i * 3 + 2, none⟩ = some (.string (d[i]!).2.2) ∧
    w.frozen? ⟨g, i * 3, none⟩ = false ∧ w.frozen? ⟨g, i * 3 + 1, none⟩ = false ∧ w.frozen? ⟨g, i * 3 + 2, none⟩ = false := by
  have hH := own_holds h
  have hi' : i < d.toList.toArray.size := by simpa using hi
  have k0 := hH.cell (i := i) (c := 0) hi' (by decide)
  have k1 := hH.cell (i := i) (c := 1) hi' (by decide)
  have k2 := hH.cell (i := i) (c := 2) hi' (by decide)
  have he : d.toList.toArray[i]! = d[i]! := by simp
  rw [he] at k0 k1 k2
  simp only [Nat.zero_add, Nat.add_zero] at k0 k1 k2
  exact ⟨k0.1, k1.1, k2.1, k0.2, k1.2, k2.2⟩

theorem own_some {n0 g n cap : Nat} {w : World} {d : Array Tm} (h : KM.Own n0 w (.slice (some ⟨g, 0, none⟩) n cap) d.toList) (t : Nat) (ht : t < d.size * 3) :
    (w.cell? ⟨g, t, none⟩).isSome = true ∧ w.frozen? ⟨g, t, none⟩ = false := by
  have := own_holds h t (by rw [size_flatK]; simpa using ht)
  rw [Nat.zero_add] at this
  exact ⟨by rw [this.1]; rfl, this.2⟩

theorem own_ge {n0 g n cap : Nat} {w : World} {d : List Tm} (h : KM.Own n0 w (.slice (some ⟨g, 0, none⟩) n cap) d) : n0 ≤ g ∧ g < w.heap.size ∧ d.length ≤ cap ∧ cap ≤ maxLen := by
  rcases h.2 with ⟨hv, _⟩ | ⟨g', cap', cur, hv, h1, h2, h3, h4, _⟩
  · cases hv
  · injection hv with e1 e2 e3
    injection e1 with e1
    injection e1 with e1 _ _
    subst e1 e3
    exact ⟨h1, (Array.getElem?_eq_some_iff.1 h2).1, h3, h4⟩

theorem own_drew {n0 : Nat} {w : World} {v : Value} {d : List Tm} (h : KM.Own n0 w v d) (q : Nat) : KM.Own n0 (w.drewN q) v d := h

theorem compact_same {d : Array Tm} (h : ∀ j, j < d.size → keeps d j = true) : compactUpTo d d.size = d.toList := by
  rw [compactUpTo_all d _ h, range_map_get]

theorem comp_low {d dk : Array Tm} {m k : Nat} (h : CompInv d m k dk) (hk : k ≤ dk.size) : dk.toList.take k = compactUpTo d m := by
  apply List.ext_getElem?
  intro j
  rw [List.getElem?_take]
  by_cases hj : j < k
  · rw [if_pos hj, h.low j hj, Array.getElem?_toList, Array.getElem?_eq_getElem (by omega), getElem!_pos dk j (by omega)]
  · rw [if_neg hj, List.getElem?_eq_none (by rw [h.len]; omega)]

def CompPost (n0 g cap : Nat) (d : Array Tm) (w : World) (e : Ending) (w' : World) : Prop :=
  e = .returned (.slice (some ⟨g, 0, none⟩) (compactUpTo d d.size).length cap) ∧ KM.Own n0 w' (.slice (some ⟨g, 0, none⟩) (compactUpTo d d.size).length cap) (compactUpTo d d.size) ∧ Below n0 w w'

theorem CompPost.same {n0 g n cap : Nat} {d : Array Tm} {w : World} (h : KM.Own n0 w (.slice (some ⟨g, 0, none⟩) n cap) d.toList) (hn : d.size = n) (hk : ∀ j, j < d.size → keeps d j = true) (q : Nat) :
    CompPost n0 g cap d w (.returned (.slice (some ⟨g, 0, none⟩) n cap)) (w.drewN q) := by
  subst hn
  unfold CompPost
  rw [compact_same hk]
  refine ⟨by simp, ?_, bel_drewN (Below.refl _ _) q⟩
  have : d.toList.length = d.size := by simp
  rw [this]
  exact own_drew h q

set_option maxHeartbeats 8000000 in
set_option maxRecDepth 100000 in
theorem compact_any (n0 g n cap : Nat) (d : Array Tm) (w : World) (h : KM.Own n0 w (.slice (some ⟨g, 0, none⟩) n cap) d.toList) (hn : d.size = n) (hn0 : n0 ≤ w.heap.size) (h63 : n ≤ 1000) :
    Calls Tryz.prog 27 #[.slice (some ⟨g, 0, none⟩) n cap] w fun e w' => CompPost n0 g cap d w e w' := by
  obtain ⟨hng, hgl, hcap, hcm⟩ := own_ge h
  have hcap' : n ≤ cap := by rw [← hn]; simpa using hcap
  unfold maxLen at hcm
  have HH := hid h
  have HN := hid hn
  clear h hn hcap
  by_cases h2 : n < 2
  · have h2z : (n : Int) < 2 := by omega
    have HP := hid (CompPost.same HH.out HN.out (fun j hj => keeps_lt_one d j (by rw [HN.out] at hj; omega)) 0)
    go_enter Tryz.func27, Tryz.ntmps27
    go_wp2_with fail
    go_ret
    exact HP.out
  · have h2z : ¬ (n : Int) < 2 := by omega
    go_enter Tryz.func27, Tryz.ntmps27
    go_wp2_with fail
    go_loopg [3] n (fun g s3 wr => ∃ k q : Nat, 1 ≤ k ∧ k ≤ n ∧ n - k ≤ g ∧ s3 = .int .i64 k ∧ wr = w.drewN q ∧ Hid (∀ j, j < k → keeps d j = true))
    case atStart => exact ⟨1, 0, Nat.le_refl _, by omega, by omega, rfl, rfl, keeps_lt_one d⟩
    case round =>
      obtain ⟨k, q, hk1, hk, hg, rfl, rfl, A⟩ := hrel
      by_cases hlt : k < n
      · have hltz : (k : Int) < (n : Int) := by omega
        have hkz : (0 : Int) ≤ k := by omega
        have hkz1 : (0 : Int) ≤ (k : Int) - 1 := by omega
        have hkz2 : (k : Int) - 1 < (n : Int) := by omega
        have hkt : ((k : Int) - 1).toNat = k - 1 := by omega
        obtain ⟨c0, c1, c2, _, _, _⟩ := own_cells HH.out k (by rw [HN.out]; exact hlt)
        obtain ⟨y0, y1, y2, _, _, _⟩ := own_cells HH.out (k - 1) (by rw [HN.out]; omega)
        obtain ⟨x, hx⟩ : ∃ x, d[k]! = x := ⟨_, rfl⟩
        obtain ⟨y, hy⟩ : ∃ y, d[k - 1]! = y := ⟨_, rfl⟩
        rw [hx] at c0 c1 c2
        rw [hy] at y0 y1 y2
        have B : Hid (d[k]! = x ∧ d[k - 1]! = y) := ⟨hx, hy⟩
        have heq := fun W => eql_term x y W
        clear hx hy
        by_cases hdup : x = y
        · have hd := decide_eq_true hdup
          rw [hd] at heq
          have HDUP := hid hdup
          clear hdup hd
          go_wp2_with fail
          go_quiet (fail)
          go_wp2_with fail
          clear c0 c1 c2 y0 y1 y2
          have ST0 : Hid (CompInv d (k + 1) k d) := CompInv.start A.out (keeps_neg (by omega) (by rw [B.out.1, B.out.2]; exact HDUP.out))
          go_loopg [3, 5] n (fun gm s3 s5 wr => ∃ (kk k2 : Nat) (dk : Array Tm), s3 = .int .i64 kk ∧ s5 = .int .i64 k2 ∧ 1 ≤ k2 ∧ k + k2 ≤ n ∧ n - (k + k2) ≤ gm ∧ kk < k + k2 ∧ Hid (CompInv d (k + k2) kk dk) ∧ Hid (KM.Own n0 wr (.slice (some ⟨g, 0, none⟩) n cap) dk.toList) ∧ Hid (Below n0 w wr))
          case atStart => exact ⟨k, 1, d, rfl, rfl, Nat.le_refl _, by omega, by omega, by omega, ST0, own_drew HH.out _, bel_drewN (Below.refl _ _) _⟩
          case round =>
            obtain ⟨kk, k2, dk, rfl, rfl, h1, hle, hg2, hkk, I2, HO, HB⟩ := hrel
            have hds : dk.size = n := by rw [I2.out.size]; exact HN.out
            have hkz' : (0 : Int) ≤ kk := by omega
            have hkn' : (kk : Int) < (n : Int) := by omega
            have hk2z : (0 : Int) ≤ k2 := by omega
            have hk2m : (0 : Int) ≤ (k2 : Int) - 1 := by omega
            have hk2t : ((k2 : Int) - 1).toNat = k2 - 1 := by omega
            by_cases hlt2 : k + k2 < n
            · have hl2 : (k2 : Int) < ((n - k : Nat) : Int) := by omega
              have hl3 : (k2 : Int) - 1 < ((n - k : Nat) : Int) := by omega
              obtain ⟨u0, u1, u2, _, _, _⟩ := own_cells HO.out (k + k2) (by omega)
              obtain ⟨v0, v1, v2, _, _, _⟩ := own_cells HO.out (k + k2 - 1) (by omega)
              obtain ⟨o0, o1, o2, f0, f1, f2⟩ := own_cells HO.out kk (by omega)
              rw [I2.out.high (k + k2) (by omega), show (k + k2) * 3 = k * 3 + k2 * 3 by omega] at u0 u1 u2
              rw [I2.out.high (k + k2 - 1) (by omega), show (k + k2 - 1) * 3 = k * 3 + (k2 - 1) * 3 by omega] at v0 v1 v2
              obtain ⟨u, hu⟩ : ∃ u, d[k + k2]! = u := ⟨_, rfl⟩
              obtain ⟨v, hv⟩ : ∃ v, d[k + k2 - 1]! = v := ⟨_, rfl⟩
              obtain ⟨old, hol⟩ : ∃ old, dk[kk]! = old := ⟨_, rfl⟩
              rw [hu] at u0 u1 u2
              rw [hv] at v0 v1 v2
              rw [hol] at o0 o1 o2
              have C : Hid (d[k + k2]! = u ∧ d[k + k2 - 1]! = v) := ⟨hu, hv⟩
              have hne := fun W => neq_term u v W
              clear hu hv hol
              by_cases huv : u = v
              · have hd := decide_eq_true huv
                rw [hd] at hne
                have HUV := hid huv
                clear huv hd
                go_wp2_with fail
                go_quiet (fail)
                go_wp2_with fail
                go_roundg (n - (k + (k2 + 1)))
                case measure => omega
                exact ⟨kk, k2 + 1, dk, rfl, by go_num, by omega, by omega, Nat.le_refl _, by omega, I2.out.skip (keeps_neg (by omega) (by rw [C.out.1, C.out.2]; exact HUV.out)), own_drew HO.out _, bel_drewN HB.out _⟩
              · have hd := decide_eq_false huv
                rw [hd] at hne
                have HUV := hid huv
                clear huv hd
                have HPUT : Hid (∀ nq, KM.Own n0 ((((wr.drewN nq).setCell ⟨g, kk * 3, none⟩ (.string u.1)).setCell ⟨g, kk * 3 + 1, none⟩ (.int .i64 u.2.1)).setCell ⟨g, kk * 3 + 2, none⟩ (.string u.2.2)) (.slice (some ⟨g, 0, none⟩) n cap) (dk.setIfInBounds kk u).toList) := fun nq => by
                  rw [Array.toList_setIfInBounds]
                  exact own_put (own_drew HO.out nq) (by simpa using hds) kk (by rw [Array.length_toList]; omega) u
                go_wp2_with fail
                go_quiet (fail)
                go_wp2_with fail
                go_roundg (n - (k + (k2 + 1)))
                case measure => omega
                refine ⟨kk + 1, k2 + 1, dk.setIfInBounds kk u, by go_num, by go_num, by omega, by omega, Nat.le_refl _, by omega, ?_, HPUT.out _, (((bel_drewN HB.out _).setCell (p := ⟨g, kk * 3, none⟩) hng _).setCell (p := ⟨g, kk * 3 + 1, none⟩) hng _).setCell (p := ⟨g, kk * 3 + 2, none⟩) hng _⟩
                have := I2.out.keep (by rw [HN.out]; exact hlt2) (keeps_pos (by rw [C.out.1, C.out.2]; exact HUV.out))
                rw [C.out.1] at this
                exact this
            · have hend : k + k2 = n := by omega
              have hl2 : ¬ (k2 : Int) < ((n - k : Nat) : Int) := by omega
              have hnk : 0 < n - kk := by omega
              obtain ⟨zs, hcl⟩ : ∃ zs : List Value, ∀ ty, (Builtin.clear_ #[22] ty #[.slice (some ⟨g, kk * 3, none⟩) (n - kk) (cap - kk)]).run Tryz.prog wr = .ok (.tuple #[]) (wr.setCells g (kk * 3) zs) := by
                obtain ⟨zs, hz⟩ := run_clearM wr 0 g (kk * 3) (n - kk) (cap - kk) hnk (fun j hj => (own_some HO.out (kk * 3 + j) (by omega)).1) (fun j hj => (own_some HO.out (kk * 3 + j) (by omega)).2)
                exact ⟨zs, fun ty => hz⟩
              have HE := hid hend
              clear hend
              go_wp2_with fail
              go_ret
              have hI := I2.out
              rw [HE.out, ← HN.out] at hI
              have hlow := comp_low hI (by omega)
              have hln := hI.len
              unfold CompPost
              rw [hln, ← hlow]
              refine ⟨rfl, own_past zs wr (kk * 3) (own_cut HO.out kk (by rw [Array.length_toList]; omega)) (by rw [List.length_take, Array.length_toList]; omega) (Nat.le_refl _), ?_⟩
              exact HB.out.grown (grown_sets zs wr wr (kk * 3) (by have := grown_set wr g 0 (.int .i64 0); exact ⟨rfl, rfl, rfl, Nat.le_refl _, fun _ _ _ => rfl⟩)) (Nat.le_trans hn0 HB.out.size) (fun k e => by cases e; exact hng)
        · have hd := decide_eq_false hdup
          rw [hd] at heq
          have HDUP := hid hdup
          clear hdup hd
          go_wp2_with fail
          go_quiet (fail)
          go_wp2_with fail
          go_roundg (n - (k + 1))
          case measure => omega
          refine ⟨k + 1, _, by omega, by omega, Nat.le_refl _, by go_num, rfl, fun j hj => ?_⟩
          by_cases e : j = k
          · subst e
            exact keeps_pos (by rw [B.out.1, B.out.2]; exact HDUP.out)
          · exact A.out j (by omega)
      · have hkn : k = n := by omega
        subst hkn
        have HP := hid (CompPost.same HH.out HN.out (fun j hj => A.out j (by rw [HN.out] at hj; exact hj)) q)
        have hltz : ¬ (k : Int) < (k : Int) := by omega
        go_wp2_with fail
        go_ret
        exact HP.out

end Go.Proofs.YtfcjnoojcajljaaGreatDoor

/-
  The contracts of May, Norm and Equal of terms.
-/
namespace Go.Proofs.YtfcjnoojcajljaaGreatDoor
open Go.RowKit Go.Sort Go.Lib

set_option maxHeartbeats 1000000 in
theorem pmis_any (x : Tm) (w : World) (hs : x.1.size ≤ maxLen) : Calls Tryz.prog 30 #[.agg (encM x).toArray] w fun e w' => e = .returned (.bool (!namedM x)) ∧ Grown w w' := by
  obtain ⟨a, o, t⟩ := x
  simp only [encM, namedM] at hs ⊢
  go_enter Tryz.func30, Tryz.ntmps30
  go_wp2_with (go_at_call 54; refine (field_any _ _ hs).mono ?_; rintro e w' ⟨rfl, rfl⟩)
  go_ret
  exact ⟨rfl, (Grown.refl _).alloc _⟩

set_option maxHeartbeats 1000000 in
theorem plong_any (x : Tm) (w : World) : Calls Tryz.prog 32 #[.agg (encM x).toArray] w fun e w' => e = .returned (.bool (!shortM x)) ∧ Grown w w' := by
  obtain ⟨a, o, t⟩ := x
  simp only [encM, shortM]
  have HE : Hid (decide ((128 : Int) < t.size) = !decide (t.size ≤ 128)) := by
    show _ = _
    rw [Bool.eq_iff_iff]; simp; omega
  go_enter Tryz.func32, Tryz.ntmps32
  go_wp2_with fail
  go_ret
  exact ⟨ret_bool HE.out, (Grown.refl _).alloc _⟩

set_option maxHeartbeats 2000000 in
theorem punm_any (x : Tm) (w : World) : Calls Tryz.prog 31 #[.agg (encM x).toArray] w fun e w' => e = .returned (.bool (!rightM x)) ∧ Grown w w' := by
  obtain ⟨a, o, t⟩ := x
  simp only [encM]
  by_cases h6 : o = 6 ∨ o = 7
  · have HE : Hid ((!t.toList.isEmpty) = !rightM (a, o, t)) := by
      show _ = _
      unfold rightM
      have e1 : decide (1 ≤ o) = true := decide_eq_true (by omega)
      have e2 : decide (o ≤ 7) = true := decide_eq_true (by omega)
      have e3 : decide (o < 6) = false := decide_eq_false (by omega)
      simp only [e1, e2, e3, Bool.true_and, Bool.false_or]
      congr 1
      by_cases hz : t.size = 0
      · rw [sempty_of hz, decide_eq_true hz]
      · rw [sfull_of hz, decide_eq_false hz]
    rcases h6 with rfl | rfl
    · go_enter Tryz.func31, Tryz.ntmps31
      go_wp2_with fail
      go_ret
      exact ⟨ret_bool HE.out, (Grown.refl _).alloc _⟩
    · go_enter Tryz.func31, Tryz.ntmps31
      go_wp2_with fail
      go_ret
      exact ⟨ret_bool HE.out, (Grown.refl _).alloc _⟩
  · by_cases h5 : o = 1 ∨ o = 2 ∨ o = 3 ∨ o = 4 ∨ o = 5
    · have HE : Hid (false = !rightM (a, o, t)) := by
        show _ = _
        unfold rightM
        have e1 : decide (1 ≤ o) = true := decide_eq_true (by omega)
        have e2 : decide (o ≤ 7) = true := decide_eq_true (by omega)
        have e3 : decide (o < 6) = true := decide_eq_true (by omega)
        simp only [e1, e2, e3, Bool.true_and, Bool.true_or, Bool.not_true]
      rcases h5 with rfl | rfl | rfl | rfl | rfl <;>
      · go_enter Tryz.func31, Tryz.ntmps31
        go_wp2_with fail
        go_ret
        exact ⟨ret_bool HE.out, (Grown.refl _).alloc _⟩
    · have HE : Hid (true = !rightM (a, o, t)) := by
        show _ = _
        unfold rightM
        by_cases e1 : 1 ≤ o
        · have e2 : decide (o ≤ 7) = false := decide_eq_false (by omega)
          simp [e2]
        · simp [e1]
      have n1 : (o == 1) = false := by simp; omega
      have n2 : (o == 2) = false := by simp; omega
      have n3 : (o == 3) = false := by simp; omega
      have n4 : (o == 4) = false := by simp; omega
      have n5 : (o == 5) = false := by simp; omega
      have n6 : (o == 6) = false := by simp; omega
      have n7 : (o == 7) = false := by simp; omega
      clear h5 h6
      go_enter Tryz.func31, Tryz.ntmps31
      go_wp2_with fail
      go_ret
      exact ⟨ret_bool HE.out, (Grown.refl _).alloc _⟩

/-- A term whose texts a machine can hold. -/
def Tf : Type := { x : Tm // x.1.size ≤ maxLen ∧ x.2.2.size ≤ maxLen ∧ -9223372036854775808 ≤ x.2.1 ∧ x.2.1 ≤ 9223372036854775807 }
def tfNone : Tf := ⟨(⟨#[]⟩, 0, ⟨#[]⟩), Nat.zero_le _, Nat.zero_le _, by decide, by decide⟩

set_option maxHeartbeats 1000000 in
theorem hasM_none (p : Option Addr) (c : Nat) (fv : Value) (w : World) :
    Calls Tryz.prog 29 #[.slice p 0 c, fv] w fun e w' => e = .returned (.bool false) ∧ w' = w := by
  have hix : Calls Tryz.prog 53 #[.slice p 0 c, fv] w fun e w' => e = .returned (.int .i64 (-1)) ∧ w' = w := by
    go_enter Tryz.func53, Tryz.ntmps53
    go_wp2_with fail
    refine wp_loop_rounds 1 ?_
    rw [rounds_succ]
    go_wp2_with fail
    go_ret
    exact ⟨rfl, rfl⟩
  have HX := hid hix
  clear hix
  go_enter Tryz.func29, Tryz.ntmps29
  go_wp2_with (first | (go_at_call 53; refine HX.out.mono ?_; rintro e w1 ⟨rfl, rfl⟩))
  go_ret
  exact ⟨rfl, rfl⟩

theorem km_enc {w : World} {b off : Nat} {p : List Tm} (h : KM.At w b off p) (j : Nat) (hj : j < p.length) (i : Nat) (v : Value) (hv : (encM p[j])[i]? = some v) : w.cell? ⟨b, off + j * 3 + i, none⟩ = some v := h j hj i v hv

theorem hasM_any (f : Tm → Bool) (k : Nat) (lb : Array Value) (ent : ∀ args w, (callFunc k args).run Tryz.prog w = .ok (.enter k args) w) (v : Value) (p : List Tm) (w : World) (hv : KM.Is w v p) (hf : FitM p)
    (hk : ∀ (W : World) (x : Tm), Below w.heap.size w W → x.1.size ≤ maxLen → x.2.2.size ≤ maxLen → (-9223372036854775808 ≤ x.2.1 ∧ x.2.1 ≤ 9223372036854775807) → Calls Tryz.prog k (#[.agg (encM x).toArray] ++ lb) W fun e w' => e = .returned (.bool (f x)) ∧ Below w.heap.size w w') :
    Calls Tryz.prog 29 #[v, .func (.func k) #[] lb] w fun e w' => e = .returned (.bool (p.any f)) ∧ Below w.heap.size w w' := by
  obtain ⟨q, cap, rfl, hd⟩ := hv
  by_cases h0 : p = []
  · subst h0
    refine (hasM_none q cap _ w).mono ?_
    rintro e w' ⟨rfl, rfl⟩
    exact ⟨rfl, Below.refl _ _⟩
  · rcases hd with hd | ⟨b, off, rfl, hx⟩
    · exact absurd hd h0
    · have hlen : 0 < p.length := List.length_pos_iff.2 h0
      have hl := hf.1
      unfold maxLen at hl
      have hfn : ∀ x ∈ p, x.1.size ≤ maxLen ∧ x.2.2.size ≤ maxLen ∧ -9223372036854775808 ≤ x.2.1 ∧ x.2.1 ≤ 9223372036854775807 := hf.2
      obtain ⟨zs, hzs⟩ : ∃ zs : List Tf, zs.map (·.1) = p := ⟨p.attachWith _ hfn, List.attachWith_map_subtype_val ..⟩
      have hzl : zs.length = p.length := by rw [← hzs, List.length_map]
      letI : Inhabited Tf := ⟨tfNone⟩
      have hc := AnyQ.slices_ContainsFunc (α := Tf) Tryz.hasTrm 3 Tryz.isAgg39 Tryz.sizeOf39 (fun x => encM x.1) (fun _ => rfl) (fun x => f x.1) k lb ent b off p.length cap zs w
        (fun W x hb => hk W x.1 hb x.2.1 x.2.2.1 x.2.2.2) (by omega) (by omega) (cell_block (hx 0 hlen 0 _ rfl))
        (fun j hj i u hu => by
          have hj' : j < p.length := by omega
          rw [getElem!_pos zs j hj] at hu
          have e : (zs[j]).1 = p[j] := by subst hzs; simp
          rw [e] at hu
          exact km_enc hx j hj' i u hu)
      change Calls Tryz.prog 29 _ _ _ at hc
      refine hc.mono ?_
      rintro e w' ⟨rfl, hb⟩
      refine ⟨ret_bool ?_, hb⟩
      rw [List.take_of_length_le (by omega), ← hzs]
      simp [List.any_map, Function.comp_def]

theorem enters_pmis : ∀ args w, (callFunc 30 args).run Tryz.prog w = .ok (.enter 30 args) w := enters_of Tryz.func30 (by kernel_rfl) rfl
theorem enters_punm : ∀ args w, (callFunc 31 args).run Tryz.prog w = .ok (.enter 31 args) w := enters_of Tryz.func31 (by kernel_rfl) rfl
theorem enters_plong : ∀ args w, (callFunc 32 args).run Tryz.prog w = .ok (.enter 32 args) w := enters_of Tryz.func32 (by kernel_rfl) rfl

theorem any_not (p : List Tm) (f : Tm → Bool) : p.any (fun x => !f x) = !p.all f := by
  induction p with
  | nil => rfl
  | cons x p ih => simp only [List.any_cons, List.all_cons, ih, Bool.not_and]

theorem hasMis (v : Value) (p : List Tm) (w : World) (hv : KM.Is w v p) (hf : FitM p) : Calls Tryz.prog 29 #[v, .func (.func 30) #[] #[]] w fun e w' => e = .returned (.bool (!p.all namedM)) ∧ Below w.heap.size w w' := by
  have := hasM_any (fun x => !namedM x) 30 #[] enters_pmis v p w hv hf (fun W x hb h1 _ _ => (pmis_any x W h1).mono fun _ _ ⟨h2, h3⟩ => ⟨h2, hb.trans (h3.below.mono hb.size)⟩)
  rwa [any_not] at this
theorem hasUnm (v : Value) (p : List Tm) (w : World) (hv : KM.Is w v p) (hf : FitM p) : Calls Tryz.prog 29 #[v, .func (.func 31) #[] #[]] w fun e w' => e = .returned (.bool (!p.all rightM)) ∧ Below w.heap.size w w' := by
  have := hasM_any (fun x => !rightM x) 31 #[] enters_punm v p w hv hf (fun W x hb _ _ _ => (punm_any x W).mono fun _ _ ⟨h2, h3⟩ => ⟨h2, hb.trans (h3.below.mono hb.size)⟩)
  rwa [any_not] at this
theorem hasLng (v : Value) (p : List Tm) (w : World) (hv : KM.Is w v p) (hf : FitM p) : Calls Tryz.prog 29 #[v, .func (.func 32) #[] #[]] w fun e w' => e = .returned (.bool (!p.all shortM)) ∧ Below w.heap.size w w' := by
  have := hasM_any (fun x => !shortM x) 32 #[] enters_plong v p w hv hf (fun W x hb _ _ _ => (plong_any x W).mono fun _ _ ⟨h2, h3⟩ => ⟨h2, hb.trans (h3.below.mono hb.size)⟩)
  rwa [any_not] at this

set_option maxHeartbeats 2000000 in
set_option maxRecDepth 100000 in
theorem pmay_any (v : Value) (p : List Tm) (w : World) (hv : KM.Is w v p) (hf : FitM p) :
    Calls Tryz.prog 13 #[v] w fun e w' => e = .returned (.int .i64 (mayM p)) ∧ Below w.heap.size w w' := by
  obtain ⟨q, cap, hvv⟩ : ∃ q cap, v = .slice q p.length cap := by obtain ⟨q, cap, h, _⟩ := hv; exact ⟨q, cap, h⟩
  subst hvv
  have HV := hid hv
  have HF := hid hf
  have H1 := hid (hasMis _ p w hv hf)
  obtain ⟨m, hm⟩ : ∃ m, mayM p = m := ⟨_, rfl⟩
  rw [hm]
  have HM := hid hm
  clear hm hv hf
  unfold mayM at HM
  by_cases h8 : 8 < p.length
  · have h8z : (8 : Int) < (p.length : Int) := by omega
    have HR : Hid (5 = m) := by have := HM.out; rw [if_pos h8] at this; exact this
    go_enter Tryz.func13, Tryz.ntmps13
    go_wp2_with fail
    go_ret
    exact ⟨ret_int HR.out, Below.refl _ _⟩
  · have h8z : ¬ (8 : Int) < (p.length : Int) := by omega
    rw [if_neg h8] at HM
    cases a1 : p.all namedM with
    | false =>
      rw [a1] at H1
      have HR : Hid (2 = m) := by have := HM.out; rw [if_pos a1] at this; exact this
      go_enter Tryz.func13, Tryz.ntmps13
      go_wp2_with (go_at_call 29; refine H1.out.mono ?_; rintro e w1 ⟨rfl, hb1⟩)
      go_ret
      exact ⟨ret_int HR.out, hb1⟩
    | true =>
      rw [a1] at H1
      rw [if_neg (by rw [a1]; simp)] at HM
      have H2 : Hid (∀ W, Below w.heap.size w W → Calls Tryz.prog 29 #[.slice q p.length cap, .func (.func 31) #[] #[]] W fun e w' => e = .returned (.bool (!p.all rightM)) ∧ Below W.heap.size W w') := fun W hb => hasUnm _ p W (Kind.is_kept HV.out hb) HF.out
      have H3 : Hid (∀ W, Below w.heap.size w W → Calls Tryz.prog 29 #[.slice q p.length cap, .func (.func 32) #[] #[]] W fun e w' => e = .returned (.bool (!p.all shortM)) ∧ Below W.heap.size W w') := fun W hb => hasLng _ p W (Kind.is_kept HV.out hb) HF.out
      cases a2 : p.all rightM with
      | false =>
        rw [a2] at H2
        have HR : Hid (1 = m) := by have := HM.out; rw [if_pos a2] at this; exact this
        go_enter Tryz.func13, Tryz.ntmps13
        go_wp2_with (first | (go_at_call 29; refine H1.out.mono ?_; rintro e w1 ⟨rfl, hb1⟩) | (go_at_call 29; refine (H2.out w1 hb1).mono ?_; rintro e w2 ⟨rfl, hb2⟩))
        go_ret
        exact ⟨ret_int HR.out, bel_then hb1 hb1.size hb2⟩
      | true =>
        rw [a2] at H2
        rw [if_neg (by rw [a2]; simp)] at HM
        have h12 : Hid (∀ w1 w2, Below w.heap.size w w1 → Below w1.heap.size w1 w2 → Below w.heap.size w w2) := fun w1 w2 h k => bel_then h h.size k
        cases a3 : p.all shortM with
        | false =>
          rw [a3] at H3
          have HR : Hid (5 = m) := by have := HM.out; rw [if_pos a3] at this; exact this
          go_enter Tryz.func13, Tryz.ntmps13
          go_wp2_with (first | (go_at_call 29; refine H1.out.mono ?_; rintro e w1 ⟨rfl, hb1⟩) | (go_at_call 29; refine (H2.out w1 hb1).mono ?_; rintro e w2 ⟨rfl, hb2⟩; have hb12 := h12.out _ _ hb1 hb2) | (go_at_call 29; refine (H3.out w2 hb12).mono ?_; rintro e w3 ⟨rfl, hb3⟩))
          go_ret
          exact ⟨ret_int HR.out, bel_then hb12 hb12.size hb3⟩
        | true =>
          rw [a3] at H3
          have HR : Hid (0 = m) := by have := HM.out; rw [if_neg (by rw [a3]; simp)] at this; exact this
          go_enter Tryz.func13, Tryz.ntmps13
          go_wp2_with (first | (go_at_call 29; refine H1.out.mono ?_; rintro e w1 ⟨rfl, hb1⟩) | (go_at_call 29; refine (H2.out w1 hb1).mono ?_; rintro e w2 ⟨rfl, hb2⟩; have hb12 := h12.out _ _ hb1 hb2) | (go_at_call 29; refine (H3.out w2 hb12).mono ?_; rintro e w3 ⟨rfl, hb3⟩))
          go_ret
          exact ⟨ret_int HR.out, bel_then hb12 hb12.size hb3⟩

theorem pcells {w : World} {b off : Nat} {p : List Tm} (h : KM.At w b off p) (j : Nat) (u : Value) (hu : (KM.cells p)[j]? = some u) : w.cell? ⟨b, off + j, none⟩ = some u := by
  rcases Kind.src (K := KM) (w := w) (p := some ⟨b, off, none⟩) (d := p) (Or.inr ⟨b, off, rfl, h⟩) with h0 | ⟨ad, e, hc⟩
  · obtain rfl := List.length_eq_zero_iff.1 h0
    simp [Kind.cells] at hu
  · cases e
    have := hc j u hu
    rwa [addr_add] at this

set_option maxHeartbeats 2000000 in
set_option maxRecDepth 100000 in
theorem cloneM_any (v : Value) (p : List Tm) (w : World) (hv : KM.Is w v p) (hs : p.length * 40 ≤ 140737488355328) :
    Calls Tryz.prog 24 #[v] w fun e w' => ∃ u, e = .returned u ∧ KM.Own w.heap.size w' u p ∧ Below w.heap.size w w' := by
  obtain ⟨i0, hi, hz0, hz1, hz2⟩ := info_parts Tryz.infoTrm
  obtain ⟨q, cap, rfl, hd⟩ := hv
  have q22 : ∀ (w : World) (a : Option Addr) (n c n' c' : Nat), (binOp .eql 22 (.slice a n c) (.slice none n' c')).run Tryz.prog w = .ok (.bool a.isNone) w := fun w a n c n' c' => Lib.run_eql_slice_nil w _ _ a n c n' c' Tryz.underlying22
  have HD := hid hd
  clear hd
  cases q with
  | none =>
    have h0 : p = [] := by
      rcases HD.out with h | ⟨b, off, h, _⟩
      · exact h
      · cases h
    subst h0
    go_enter Tryz.func24, Tryz.ntmps24
    go_wp2_with fail
    go_ret
    exact ⟨_, rfl, KM.own_nil _ _, Below.refl _ _⟩
  | some a =>
    have hcells : ∀ j u, (KM.cells p)[j]? = some u → (w.alloc (.cells #[] 39)).cell? (a.add j) = some u := by
      rcases HD.out with h | ⟨b, off, h, hx⟩
      · subst h; intro j u hj; simp [Kind.cells] at hj
      · intro j u hj
        obtain rfl : a = ⟨b, off, none⟩ := by simpa using h
        rw [addr_add]
        have := pcells hx j u hj
        rw [World.cell?_alloc_lt _ _ ⟨b, off + j, none⟩ (cell_block this)]; exact this
    have HC := hid hcells
    clear hcells
    go_enter Tryz.func24, Tryz.ntmps24
    go_wp2_with (at_builtin; refine wpList_append_own _ rfl _ _ 22 rfl w.heap.size 39 i0 (.agg #[.string ⟨#[]⟩, .int .i64 0, .string ⟨#[]⟩]) 3 40 Tryz.underlying22 hi hz0 hz1 hz2 rfl (by decide) _ _ _ rfl (World.ownsRow_made w #[] 0 (Nat.le_refl _) (Nat.zero_le _) (by simp)) a p.length cap (KM.cells p) rfl ?c0 ?c1 ?c2 ?c3 ?c4 ?c5 ?_)
    case c0 => exact KM.cells_len p
    case c1 => exact HC.out
    case c2 => exact KM.cells_ones p
    case c3 => unfold maxLen; omega
    case c4 => omega
    case c5 => simp
    intro v' w1 hown hgrow hnil
    have hb1 : Below w.heap.size w w1 := ((Below.refl _ w).alloc (Nat.le_refl _) _).grown hgrow (by simp) (by intro k hk; simp [Value.ownBlock] at hk; omega)
    have HO : Hid (KM.Own w.heap.size w1 v' p) := hid (by show w1.ownsRow w.heap.size 39 3 v' p.length (KM.cells p); simpa using hown)
    clear hown hgrow hnil
    go_wp2_with fail
    go_ret
    exact ⟨_, rfl, HO.out, hb1⟩

set_option maxHeartbeats 2000000 in
theorem sortM_none (fv : Value) (w : World) :
    Calls Tryz.prog 25 #[.slice none 0 0, fv] w fun e w' => e = .returned (.tuple #[]) ∧ w' = w := by
  have hi : ∀ W, Calls Tryz.prog 80 #[.slice none 0 0, .int .i64 0, .int .i64 0, fv] W fun e w' => e = .returned (.tuple #[]) ∧ w' = W := fun W => by
    go_enter Tryz.func80, Tryz.ntmps80
    go_wp2_with fail
    refine wp_loop_rounds 1 ?_
    rw [rounds_succ]
    go_wp2_with fail
    go_end0
    exact ⟨rfl, rfl⟩
  have HI := hid hi
  clear hi
  have hp : ∀ (l : Int) W, Calls Tryz.prog 48 #[.slice none 0 0, .int .i64 0, .int .i64 0, .int .i64 l, fv] W fun e w' => e = .returned (.tuple #[]) ∧ w' = W := fun l W => by
    go_enter Tryz.func48, Tryz.ntmps48
    go_wp2_with fail
    refine wp_loop_rounds 1 ?_
    rw [rounds_succ]
    go_wp2_with (first | (go_at_call 80; refine (HI.out _).mono ?_; rintro e w1 ⟨rfl, rfl⟩))
    refine bodyPost_ret (results_none (h := Tryz.results48) _ _ _) rfl ?_
    exact ⟨rfl, rfl⟩
  have HP := hid hp
  clear hp
  go_enter Tryz.func25, Tryz.ntmps25
  go_wp2_with (first | (go_at_call 49; refine (Tryz.bits_Len 0 _ (by omega) (by omega)).mono ?_; rintro e w1 ⟨rfl, rfl⟩) | (go_at_call 48; refine (HP.out _ _).mono ?_; rintro e w1 ⟨rfl, rfl⟩))
  go_end0
  exact ⟨rfl, rfl⟩

set_option maxHeartbeats 1000000 in
theorem compM_none (w : World) :
    Calls Tryz.prog 27 #[.slice none 0 0] w fun e w' => e = .returned (.slice none 0 0) ∧ w' = w := by
  go_enter Tryz.func27, Tryz.ntmps27
  go_wp2_with fail
  go_ret
  exact ⟨rfl, rfl⟩

theorem sort_own (n0 : Nat) (u : Value) (p : List Tm) (w : World) (h : KM.Own n0 w u p) (h0 : n0 ≤ w.heap.size) (h12 : p.length ≤ 12) :
    Calls Tryz.prog 25 #[u, .func (.func 26) #[] #[]] w fun e w' =>
      e = .returned (.tuple #[]) ∧ ∃ d' : Array Tm, d'.toList.Perm p ∧ SortedIn (ltOf cmpM) 0 d'.size d' ∧ KM.Own n0 w' u d'.toList ∧ Below n0 w w' := by
  rcases h.2 with ⟨rfl, hl⟩ | ⟨g, cap, cur, rfl, _⟩
  · obtain rfl := List.length_eq_zero_iff.1 hl
    refine (sortM_none _ w).mono ?_
    rintro e w' ⟨rfl, rfl⟩
    exact ⟨rfl, #[], List.Perm.refl _, fun i j _ _ hj => absurd hj (Nat.not_lt_zero _), KM.own_nil _ _, Below.refl _ _⟩
  · refine (sortM_rows n0 g p.length cap p w h rfl h0 h12).mono ?_
    rintro e w' ⟨rfl, d', _, h2, h3, h4, h5⟩
    exact ⟨rfl, d', h2, h3, h4, h5⟩

theorem comp_own (n0 : Nat) (u : Value) (d : Array Tm) (w : World) (h : KM.Own n0 w u d.toList) (h0 : n0 ≤ w.heap.size) (h12 : d.size ≤ 12) :
    Calls Tryz.prog 27 #[u] w fun e w' => ∃ u', e = .returned u' ∧ KM.Own n0 w' u' (compactUpTo d d.size) ∧ Below n0 w w' := by
  rcases h.2 with ⟨rfl, hl⟩ | ⟨g, cap, cur, rfl, _⟩
  · have hz : d.size = 0 := by simpa using hl
    refine (compM_none w).mono ?_
    rintro e w' ⟨rfl, rfl⟩
    refine ⟨_, rfl, ?_, Below.refl _ _⟩
    rw [hz]
    exact KM.own_nil _ _
  · refine (compact_any n0 g d.toList.length cap d w h (by simp) h0 (by simp; omega)).mono ?_
    rintro e w' ⟨rfl, h1, h2⟩
    exact ⟨_, rfl, h1, h2⟩

set_option maxHeartbeats 2000000 in
set_option maxRecDepth 100000 in
theorem pnorm_any (v : Value) (p : List Tm) (w : World) (hv : KM.Is w v p) (hf : FitM p) :
    Calls Tryz.prog 10 #[v] w fun e w' => NMPost w p e w' := by
  have HM := hid (pmay_any v p w hv hf)
  by_cases hm : mayM p = 0
  · have h8 := (mayM_zero hm).1
    have HA : Hid (ansM p = sortM p) := by show _ = _; unfold ansM; rw [if_pos hm]
    rw [hm] at HM
    have HM0 := hid hm
    have HC : Hid (∀ W : World, Below w.heap.size w W → Calls Tryz.prog 24 #[v] W fun e w' => ∃ u, e = .returned u ∧ KM.Own W.heap.size w' u p ∧ Below W.heap.size W w') := fun W hb => cloneM_any v p W (Kind.is_kept hv hb) (by omega)
    clear hv hf hm
    go_enter Tryz.func10, Tryz.ntmps10
    go_wp2_with (first
      | (go_at_call 13; refine HM.out.mono ?_; rintro e w1 ⟨rfl, hb1⟩)
      | (go_at_call 24; refine (HC.out w1 hb1).mono ?_; rintro e w2 ⟨u2, rfl, ho2, hb2⟩; have HO2 := hid ho2; clear ho2)
      | (go_at_call 25; refine (sort_own w1.heap.size u2 p w2 HO2.out hb2.size (by omega)).mono ?_; rintro e w3 ⟨rfl, d3, hp3, hs3, ho3, hb3⟩; have HO3 := hid ho3; have HP3 := hid hp3; have HS3 := hid hs3; have hl3 : d3.size ≤ 8 := (by have := HP3.out.length_eq; rw [Array.length_toList] at this; omega); clear ho3 hp3 hs3)
      | (go_at_call 27; refine (comp_own w1.heap.size u2 d3 w3 HO3.out (Nat.le_trans hb2.size hb3.size) (by omega)).mono ?_; rintro e w4 ⟨u4, rfl, ho4, hb4⟩; have HO4 := hid ho4; clear ho4))
    go_ret2
    refine ⟨⟨u4, by rw [HM0.out]; rfl, ?_⟩, ?_⟩
    · rw [HA.out]
      obtain ⟨r1, r2⟩ := compact_sorted HS3.out
      have e := sortM_unique (p := p) r1 (fun x => (r2 x).trans HP3.out.mem_iff)
      rw [← e]
      exact Kind.own_weak HO4.out hb1.size
    · exact ((hb1.trans (hb2.mono hb1.size)).trans (hb3.mono hb1.size)).trans (hb4.mono hb1.size)
  · have hne : (mayM p != 0) = true := by rw [bne_iff_ne]; exact hm
    have HA : Hid (ansM p = []) := by show _ = _; unfold ansM; rw [if_neg hm]
    obtain ⟨M, hM⟩ : ∃ M, mayM p = M := ⟨_, rfl⟩
    rw [hM] at HM hne
    have HMM := hid hM
    clear hv hf hm hM
    go_enter Tryz.func10, Tryz.ntmps10
    go_wp2_with (first | (go_at_call 13; refine HM.out.mono ?_; rintro e w1 ⟨rfl, hb1⟩))
    go_ret2
    refine ⟨⟨.slice none 0 0, by rw [HMM.out]; rfl, ?_⟩, hb1⟩
    rw [HA.out]
    exact KM.own_nil _ _

theorem neqM_at : NeqAt Tryz.prog 39 (fun x : Tm => .agg (encM x).toArray) (fun x y => decide (x = y)) :=
  ⟨fun x y w => neq_term x y w, GuardAt.agg (fun x : Tm => (encM x).toArray) (by kernel_rfl)⟩

theorem allEq_decide : ∀ (p q : List Tm), Lib.allEq (fun x y => decide (x = y)) p q = decide (p = q)
  | [], [] => rfl
  | [], y :: q => by simp [Lib.allEq]
  | x :: p, [] => by simp [Lib.allEq]
  | x :: p, y :: q => by
    have := allEq_decide p q
    unfold Lib.allEq
    rw [this]
    by_cases h1 : x = y <;> by_cases h2 : p = q <;> simp [h1, h2]

set_option maxHeartbeats 1000000 in
theorem eqM_none1 (q1 q2 : Option Addr) (c1 c2 m : Nat) (hm : m ≤ maxLen) (w : World) :
    Calls Tryz.prog 34 #[.slice q1 0 c1, .slice q2 m c2] w fun e w' => e = .returned (.bool (decide (m = 0))) ∧ w' = w := by
  unfold maxLen at hm
  by_cases h0 : m = 0
  · subst h0
    go_enter Tryz.func34, Tryz.ntmps34
    go_wp2_with fail
    refine wp_loop_rounds 1 ?_
    rw [rounds_succ]
    go_wp2_with fail
    go_ret
    exact ⟨rfl, rfl⟩
  · have hz : ((0 : Int) != (m : Int)) = true := by simp; omega
    have hd := decide_eq_false h0
    rw [hd]
    go_enter Tryz.func34, Tryz.ntmps34
    go_wp2_with fail
    go_ret
    exact ⟨rfl, rfl⟩

set_option maxHeartbeats 1000000 in
theorem eqM_none2 (q1 q2 : Option Addr) (c1 c2 m : Nat) (hm : m ≠ 0) (w : World) :
    Calls Tryz.prog 34 #[.slice q1 m c1, .slice q2 0 c2] w fun e w' => e = .returned (.bool false) ∧ w' = w := by
  have hz : ((m : Int) != 0) = true := by simp; omega
  go_enter Tryz.func34, Tryz.ntmps34
  go_wp2_with fail
  go_ret
  exact ⟨rfl, rfl⟩

theorem eqM_any (v u : Value) (p q : List Tm) (w : World) (hv : KM.Is w v p) (hu : KM.Is w u q) (hl1 : p.length ≤ maxLen) (hl2 : q.length ≤ maxLen) :
    Calls Tryz.prog 34 #[v, u] w fun e w' => e = .returned (.bool (decide (p = q))) ∧ ∃ n, w' = w.drewN n := by
  obtain ⟨a1, k1, rfl, hd1⟩ := hv
  obtain ⟨a2, k2, rfl, hd2⟩ := hu
  by_cases h1 : p = []
  · subst h1
    refine (eqM_none1 a1 a2 k1 k2 q.length hl2 w).mono ?_
    rintro e w' ⟨rfl, rfl⟩
    refine ⟨ret_bool ?_, 0, rfl⟩
    cases q <;> simp
  · by_cases h2 : q = []
    · subst h2
      refine (eqM_none2 a1 a2 k1 k2 p.length (fun e => h1 (List.length_eq_zero_iff.1 e)) w).mono ?_
      rintro e w' ⟨rfl, rfl⟩
      exact ⟨ret_bool (by rw [decide_eq_false h1]), 0, rfl⟩
    · rcases hd1 with hd1 | ⟨b1, o1, rfl, x1⟩
      · exact absurd hd1 h1
      · rcases hd2 with hd2 | ⟨b2, o2, rfl, x2⟩
        · exact absurd hd2 h2
        · unfold maxLen at hl1 hl2
          have hc := AnyQ.slices_Equal (α := Tm) Tryz.eqTrm 3 Tryz.isAgg39 Tryz.sizeOf39 encM (fun _ => rfl) (fun x y => decide (x = y)) neqM_at b1 o1 p.length k1 b2 o2 q.length k2 p q w (Nat.le_refl _) (Nat.le_refl _) (by omega) (by omega)
            (fun j hj i v hv => by rw [getElem!_pos p j hj] at hv; exact km_enc x1 j hj i v hv) (fun j hj i v hv => by rw [getElem!_pos q j hj] at hv; exact km_enc x2 j hj i v hv)
          change Calls Tryz.prog 34 _ _ _ at hc
          refine hc.mono ?_
          rintro e w' ⟨rfl, n, rfl⟩
          exact ⟨ret_bool (by rw [List.take_length, List.take_length, allEq_decide]), n, rfl⟩

set_option maxHeartbeats 1000000 in
theorem pequal_any (v u : Value) (p q : List Tm) (w : World) (hv : KM.Is w v p) (hu : KM.Is w u q) (hl1 : p.length ≤ maxLen) (hl2 : q.length ≤ maxLen) :
    Calls Tryz.prog 15 #[v, u] w fun e w' => e = .returned (.bool (decide (p = q))) ∧ Below w.heap.size w w' := by
  have HE := hid (eqM_any v u p q w hv hu hl1 hl2)
  clear hv hu
  go_enter Tryz.func15, Tryz.ntmps15
  go_wp2_with (go_at_call 34; refine HE.out.mono ?_; rintro e w1 ⟨rfl, n, rfl⟩)
  go_ret
  exact ⟨rfl, bel_drewN (Below.refl _ _) n⟩

end Go.Proofs.YtfcjnoojcajljaaGreatDoor

/-
  The contract of strings.Cut at a separator of one byte.
-/
namespace Go.Proofs.YtfcjnoojcajljaaGreatDoor
open Go.RowKit



set_option maxHeartbeats 400000 in
theorem cutl_no (s : ByteArray) (c : UInt8) (w : World) (hix : Lib.indexByte s.data.toList c = -1) :
    Calls Tryz.prog 132 #[.string s, .string ⟨#[c]⟩] w fun e w' => e = .returned (.tuple #[.string s, .string ⟨#[]⟩, .bool false]) ∧ w' = w := by
  have HX : Hid (Lib.indexByte s.data.toList c = -1) := hix
  clear hix
  go_enter Tryz.func132, Tryz.ntmps132
  go_wp2_with (go_at_call 125; refine (Tryz.stringslite_Index_one _ _ _).mono ?_; rintro e w' ⟨rfl, rfl⟩; rw [HX.out])
  go_ret3
  exact ⟨rfl, rfl⟩

set_option maxHeartbeats 400000 in
theorem cutl_yes (s : ByteArray) (c : UInt8) (w : World) (i : Nat) (hix : Lib.indexByte s.data.toList c = (i : Int)) (hi : i < s.size) (hs : s.size ≤ maxLen) :
    Calls Tryz.prog 132 #[.string s, .string ⟨#[c]⟩] w fun e w' => e = .returned (.tuple #[.string (s.extract 0 i), .string (s.extract (i + 1) s.size), .bool true]) ∧ ∃ n, w' = w.drewN n := by
  have HX : Hid (Lib.indexByte s.data.toList c = (i : Int)) := hix
  clear hix
  unfold maxLen at hs
  have c1 : (0 : Int) ≤ ↑i := by omega
  have c2 : (↑i : Int) ≤ ↑s.size := by omega
  have c3 : (0 : Int) ≤ ↑i + 1 := by omega
  have c4 : (↑i + 1 : Int) ≤ ↑s.size := by omega
  go_enter Tryz.func132, Tryz.ntmps132
  go_wp2_with (go_at_call 125; refine (Tryz.stringslite_Index_one _ _ _).mono ?_; rintro e w' ⟨rfl, rfl⟩; rw [HX.out])
  go_quiet (fail)
  go_wp2_with fail
  go_ret3
  exact ⟨rfl, _, rfl⟩

set_option maxHeartbeats 400000 in
theorem cut_no (s : ByteArray) (c : UInt8) (w : World) (hix : Lib.indexByte s.data.toList c = -1) :
    Calls Tryz.prog 121 #[.string s, .string ⟨#[c]⟩] w fun e w' => e = .returned (.tuple #[.string s, .string ⟨#[]⟩, .bool false]) ∧ w' = w := by
  have HX : Hid (Lib.indexByte s.data.toList c = -1) := hix
  clear hix
  go_enter Tryz.func121, Tryz.ntmps121
  go_wp2_with (go_at_call 132; refine (cutl_no _ _ _ HX.out).mono ?_; rintro e w' ⟨rfl, rfl⟩)
  go_ret3
  exact ⟨rfl, rfl⟩

set_option maxHeartbeats 400000 in
theorem cut_yes (s : ByteArray) (c : UInt8) (w : World) (i : Nat) (hix : Lib.indexByte s.data.toList c = (i : Int)) (hi : i < s.size) (hs : s.size ≤ maxLen) :
    Calls Tryz.prog 121 #[.string s, .string ⟨#[c]⟩] w fun e w' => e = .returned (.tuple #[.string (s.extract 0 i), .string (s.extract (i + 1) s.size), .bool true]) ∧ ∃ n, w' = w.drewN n := by
  have HX : Hid (Lib.indexByte s.data.toList c = (i : Int)) := hix
  clear hix
  go_enter Tryz.func121, Tryz.ntmps121
  go_wp2_with (go_at_call 132; refine (cutl_yes _ _ _ i HX.out hi hs).mono ?_; rintro e w' ⟨rfl, n, rfl⟩)
  go_ret3
  exact ⟨rfl, n, rfl⟩

end Go.Proofs.YtfcjnoojcajljaaGreatDoor

/-
  The contracts of token and Token of package name, and of bar and Token of the reference.
-/
namespace Go.Proofs.YtfcjnoojcajljaaGreatDoor
open Go.RowKit



def tokSys (s : ByteArray) : ByteArray := if 0 ≤ Lib.indexByte s.data.toList 124 then s.extract 0 (Lib.indexByte s.data.toList 124).toNat else ⟨#[]⟩
def tokCode (s : ByteArray) : ByteArray := if 0 ≤ Lib.indexByte s.data.toList 124 then s.extract ((Lib.indexByte s.data.toList 124).toNat + 1) s.size else s
def tokenB (p t : ByteArray) : Bool :=
  if 0 ≤ Lib.indexByte p.data.toList 124 then ((tokSys p).toList == (tokSys t).toList) && ((tokCode p).toList == (tokCode t).toList || (tokCode p).toList.isEmpty)
  else p.toList == (tokCode t).toList

theorem tok_no {s : ByteArray} (h : Lib.indexByte s.data.toList 124 = -1) : tokSys s = ⟨#[]⟩ ∧ tokCode s = s := by
  unfold tokSys tokCode; rw [h]; exact ⟨rfl, rfl⟩
theorem tok_yes {s : ByteArray} {i : Nat} (h : Lib.indexByte s.data.toList 124 = (i : Int)) : tokSys s = s.extract 0 i ∧ tokCode s = s.extract (i + 1) s.size := by
  unfold tokSys tokCode; rw [h, if_pos (by omega), if_pos (by omega), Int.toNat_natCast]; exact ⟨rfl, rfl⟩
theorem tokenB_bare {p : ByteArray} (t : ByteArray) (h : Lib.indexByte p.data.toList 124 = -1) : tokenB p t = (p.toList == (tokCode t).toList) := by
  unfold tokenB; rw [h]; rfl
theorem tokenB_bar {p : ByteArray} {i : Nat} (t : ByteArray) (h : Lib.indexByte p.data.toList 124 = (i : Int)) :
    tokenB p t = (((tokSys p).toList == (tokSys t).toList) && ((tokCode p).toList == (tokCode t).toList || (tokCode p).toList.isEmpty)) := by
  unfold tokenB; rw [h, if_pos (by omega)]

set_option maxHeartbeats 400000 in
theorem token_no (s : ByteArray) (w : World) (hix : Lib.indexByte s.data.toList 124 = -1) :
    Calls Tryz.prog 95 #[.string s] w fun e w' => e = .returned (.tuple #[.string ⟨#[]⟩, .string s]) ∧ w' = w := by
  have HX : Hid (Lib.indexByte s.data.toList 124 = -1) := hix
  clear hix
  go_enter Tryz.func95, Tryz.ntmps95
  go_wp2_with (go_at_call 121; refine (cut_no _ _ _ HX.out).mono ?_; rintro e w' ⟨rfl, rfl⟩)
  go_ret2
  exact ⟨rfl, rfl⟩

set_option maxHeartbeats 400000 in
theorem token_yes (s : ByteArray) (w : World) (i : Nat) (hix : Lib.indexByte s.data.toList 124 = (i : Int)) (hi : i < s.size) (hs : s.size ≤ maxLen) :
    Calls Tryz.prog 95 #[.string s] w fun e w' => e = .returned (.tuple #[.string (s.extract 0 i), .string (s.extract (i + 1) s.size)]) ∧ ∃ n, w' = w.drewN n := by
  have HX : Hid (Lib.indexByte s.data.toList 124 = (i : Int) ∧ i < s.size ∧ s.size ≤ maxLen) := ⟨hix, hi, hs⟩
  clear hix hi hs
  go_enter Tryz.func95, Tryz.ntmps95
  go_wp2_with (go_at_call 121; refine (cut_yes _ _ _ i HX.out.1 HX.out.2.1 HX.out.2.2).mono ?_; rintro e w' ⟨rfl, n, rfl⟩)
  go_ret2
  exact ⟨rfl, n, rfl⟩

theorem token_any (s : ByteArray) (w : World) (hs : s.size ≤ maxLen) :
    Calls Tryz.prog 95 #[.string s] w fun e w' => e = .returned (.tuple #[.string (tokSys s), .string (tokCode s)]) ∧ ∃ n, w' = w.drewN n := by
  rcases ix_cases s.data.toList 124 with ⟨h1, _⟩ | ⟨i, h1, h2, _, _⟩
  · rw [(tok_no h1).1, (tok_no h1).2]
    exact (token_no s w h1).mono fun e w' ⟨a, b⟩ => ⟨a, 0, by rw [b]; rfl⟩
  · rw [(tok_yes h1).1, (tok_yes h1).2]
    exact token_yes s w i h1 (by simpa using h2) hs

set_option maxHeartbeats 400000 in
theorem Token_any (p t : ByteArray) (w : World) (hp : p.size ≤ maxLen) (ht : t.size ≤ maxLen) :
    Calls Tryz.prog 57 #[.string p, .string t] w fun e w' => e = .returned (.bool (tokenB p t)) ∧ ∃ n, w' = w.drewN n := by
  have HS : Hid (p.size ≤ maxLen ∧ t.size ≤ maxLen) := ⟨hp, ht⟩
  clear hp ht
  rcases ix_cases p.data.toList 124 with ⟨h1, _⟩ | ⟨i, h1, _, _, _⟩
  · have HB := hid (tokenB_bare t h1)
    have hd : decide (0 ≤ Lib.indexByte p.data.toList 124) = false := by rw [h1]; rfl
    clear h1
    go_enter Tryz.func57, Tryz.ntmps57
    go_wp2_with (first | (go_at_call 95; refine (token_any _ _ HS.out.2).mono ?_; rintro e w' ⟨rfl, n, rfl⟩) | (go_at_call 96; refine (Tryz.strings_Contains_one _ _ _).mono ?_; rintro e w' ⟨rfl, rfl⟩))
    go_ret
    exact ⟨ret_bool (HB.out).symm, n, rfl⟩
  · have HB := hid (tokenB_bar t h1)
    have hd : decide (0 ≤ Lib.indexByte p.data.toList 124) = true := by rw [h1]; simp
    clear h1
    go_enter Tryz.func57, Tryz.ntmps57
    go_wp2_with fail
    refine (token_any _ _ HS.out.2).mono ?_
    rintro e w' ⟨rfl, n, rfl⟩
    go_wp2_with (go_at_call 96; refine (Tryz.strings_Contains_one _ _ _).mono ?_; rintro e w' ⟨rfl, rfl⟩)
    refine (token_any _ _ HS.out.1).mono ?_
    rintro e w' ⟨rfl, m, rfl⟩
    cases e1 : ((tokSys p).toList == (tokSys t).toList)
    · go_wp2_with fail
      go_ret
      exact ⟨ret_bool (by rw [HB.out, e1]; rfl), _, rfl⟩
    · cases e2 : ((tokCode p).toList == (tokCode t).toList)
      · go_wp2_with fail
        go_ret
        exact ⟨ret_bool (by rw [HB.out, e1, e2]; rfl), _, rfl⟩
      · go_wp2_with fail
        go_ret
        exact ⟨ret_bool (by rw [HB.out, e1, e2]; rfl), _, rfl⟩

end Go.Proofs.YtfcjnoojcajljaaGreatDoor

/-
  The contracts of the reference's bar and Token.
-/
namespace Go.Proofs.YtfcjnoojcajljaaGreatDoor
open Go.RowKit

/-- No byte c among the first k. -/
theorem ix_none_of (s : ByteArray) (c : UInt8) (h : ∀ j, (hj : j < s.size) → s[j] ≠ c) : Lib.indexByte s.data.toList c = -1 := by
  rcases ix_cases s.data.toList c with ⟨h1, _⟩ | ⟨i, _, h2, h3, _⟩
  · exact h1
  · have hi : i < s.size := by simpa using h2
    rw [Lib.data_getElem? s i hi] at h3
    exact absurd (Option.some.inj h3) (h i hi)

theorem ix_at_of (s : ByteArray) (c : UInt8) (k : Nat) (hk : k < s.size) (h : ∀ j, j < k → (hj : j < s.size) → s[j] ≠ c) (hc : s[k] = c) : Lib.indexByte s.data.toList c = (k : Int) := by
  rcases ix_cases s.data.toList c with ⟨_, h2⟩ | ⟨i, h1, h2, h3, h4⟩
  · exfalso
    apply h2
    rw [← hc, ← byte_at s k hk]
    exact List.getElem_mem _
  · have hi : i < s.size := by simpa using h2
    rw [Lib.data_getElem? s i hi] at h3
    have e3 := Option.some.inj h3
    rcases Nat.lt_trichotomy i k with hl | rfl | hl
    · exact absurd e3 (h i hl hi)
    · exact h1
    · exfalso
      apply h4
      rw [← hc, ← byte_at s k hk]
      rw [List.mem_iff_getElem]
      exact ⟨k, by simp; omega, by rw [List.getElem_take]⟩

set_option maxHeartbeats 400000 in
theorem bar_any (s : ByteArray) (w : World) (hs : s.size ≤ maxLen) :
    Calls Tryz.prog 99 #[.string s] w fun e w' => e = .returned (.int .i64 (Lib.indexByte s.data.toList 124)) ∧ w' = w := by
  unfold maxLen at hs
  have HN := hid (ix_none_of s 124)
  have HA := hid (ix_at_of s 124)
  generalize Lib.indexByte s.data.toList 124 = r at *
  go_enter Tryz.func99, Tryz.ntmps99
  go_wp2
  go_loop [3] (fun i => ∃ k : Nat, k ≤ s.size ∧ i = .int .i64 k ∧ (∀ j, j < k → (hj : j < s.size) → s[j] ≠ 124)) (fun i => s.size - (intOf i).toNat)
  case atStart => exact ⟨0, by omega, rfl, fun j h => by omega⟩
  case round =>
    obtain ⟨k, hk, rfl, hall⟩ := hrel
    have HL := hid hall
    clear hall
    by_cases hlt : k < s.size
    · by_cases hc : s[k] = 124
      · have hb : ((s[k].toNat : Int) == 124) = true := by rw [hc]; rfl
        have HC := hid hc
        clear hc
        go_wp2
        go_ret
        exact ⟨ret_int (HA.out k hlt HL.out HC.out).symm, rfl⟩
      · have hb : ((s[k].toNat : Int) == 124) = false := by
          rw [beq_eq_false_iff_ne]
          intro h
          apply hc
          apply UInt8.toNat_inj.1
          have : (124 : UInt8).toNat = 124 := rfl
          omega
        have HC := hid hc
        clear hc
        go_wp2
        go_round
        case rel =>
          refine ⟨k + 1, by omega, by go_num, fun j h1 hj => ?_⟩
          by_cases hjk : j = k
          · subst hjk; exact HC.out
          · exact HL.out j (by omega) hj
        case measure => simp [intOf]; omega
    · go_wp2
      go_ret
      exact ⟨ret_int (HN.out fun j hj => HL.out j (by omega) hj).symm, rfl⟩

theorem beq_nil_isEmpty (l : List UInt8) : (l == (⟨#[]⟩ : ByteArray).toList) = l.isEmpty := by
  rw [Lib.toList_data]
  cases l <;> rfl

set_option maxHeartbeats 800000 in
theorem rtoken_any (p t : ByteArray) (w : World) (hp : p.size ≤ maxLen) (ht : t.size ≤ maxLen) :
    Calls Tryz.prog 66 #[.string p, .string t] w fun e w' => e = .returned (.bool (tokenB p t)) ∧ ∃ n, w' = w.drewN n := by
  have HS := hid (And.intro hp ht)
  unfold maxLen at hp ht
  have kp := fun W => bar_any p W HS.out.1
  have kt := fun W => bar_any t W HS.out.2
  rcases ix_cases p.data.toList 124 with ⟨h1, _⟩ | ⟨j, h1, hj, _, _⟩
  · have hb := tokenB_bare t h1
    rw [h1] at kp
    have KP := hid kp
    rcases ix_cases t.data.toList 124 with ⟨h2, _⟩ | ⟨i, h2, hi, _, _⟩
    · rw [(tok_no h2).2] at hb
      rw [h2] at kt
      have KT := hid kt
      have HB := hid hb
      clear kp kt hb h1 h2
      go_enter Tryz.func66, Tryz.ntmps66
      go_wp2_with fail
      refine (KP.out _).mono ?_
      rintro e w' ⟨rfl, rfl⟩
      go_wp2_with fail
      refine (KT.out _).mono ?_
      rintro e w' ⟨rfl, rfl⟩
      go_wp2_with fail
      go_ret
      exact ⟨ret_bool HB.out.symm, 0, rfl⟩
    · have hi' : i < t.size := by simpa using hi
      rw [(tok_yes h2).2] at hb
      rw [h2] at kt
      have KT := hid kt
      have HB := hid hb
      clear kp kt hb h1 h2 hi
      have c1 : (0 : Int) ≤ ↑i := by omega
      have c2 : (↑i : Int) ≤ ↑t.size := by omega
      have c3 : (0 : Int) ≤ ↑i + 1 := by omega
      have c4 : (↑i + 1 : Int) ≤ ↑t.size := by omega
      go_enter Tryz.func66, Tryz.ntmps66
      go_wp2_with fail
      refine (KP.out _).mono ?_
      rintro e w' ⟨rfl, rfl⟩
      go_wp2_with fail
      refine (KT.out _).mono ?_
      rintro e w' ⟨rfl, rfl⟩
      go_wp2_with fail
      go_quiet (fail)
      go_wp2_with fail
      go_ret
      exact ⟨ret_bool HB.out.symm, _, rfl⟩
  · have hj' : j < p.size := by simpa using hj
    have hb := tokenB_bar t h1
    rw [(tok_yes h1).1, (tok_yes h1).2] at hb
    rw [h1] at kp
    have KP := hid kp
    have d1 : (0 : Int) ≤ ↑j := by omega
    have d2 : (↑j : Int) ≤ ↑p.size := by omega
    have d3 : (0 : Int) ≤ ↑j + 1 := by omega
    have d4 : (↑j + 1 : Int) ≤ ↑p.size := by omega
    rcases ix_cases t.data.toList 124 with ⟨h2, _⟩ | ⟨i, h2, hi, _, _⟩
    · rw [(tok_no h2).1, (tok_no h2).2, beq_nil_isEmpty] at hb
      rw [h2] at kt
      have KT := hid kt
      have HB := hid hb
      clear kp kt hb h1 h2 hj
      cases e1 : (p.extract 0 j).toList.isEmpty <;> cases e2 : (p.extract (j + 1) p.size).toList.isEmpty
      all_goals
        go_enter Tryz.func66, Tryz.ntmps66
        go_wp2_with fail
        refine (KP.out _).mono ?_
        rintro e w' ⟨rfl, rfl⟩
        go_wp2_with fail
        refine (KT.out _).mono ?_
        rintro e w' ⟨rfl, rfl⟩
        go_wp2_with fail
        go_ret
        exact ⟨ret_bool (by rw [HB.out, e1, e2]; simp), 0, rfl⟩
    · have hi' : i < t.size := by simpa using hi
      rw [(tok_yes h2).1, (tok_yes h2).2] at hb
      rw [h2] at kt
      have KT := hid kt
      have HB := hid hb
      clear kp kt hb h1 h2 hi hj
      have c1 : (0 : Int) ≤ ↑i := by omega
      have c2 : (↑i : Int) ≤ ↑t.size := by omega
      have c3 : (0 : Int) ≤ ↑i + 1 := by omega
      have c4 : (↑i + 1 : Int) ≤ ↑t.size := by omega
      cases e1 : ((p.extract 0 j).toList == (t.extract 0 i).toList) <;> cases e2 : (p.extract (j + 1) p.size).toList.isEmpty
      all_goals
        go_enter Tryz.func66, Tryz.ntmps66
        go_wp2_with fail
        refine (KP.out _).mono ?_
        rintro e w' ⟨rfl, rfl⟩
        go_wp2_with fail
        refine (KT.out _).mono ?_
        rintro e w' ⟨rfl, rfl⟩
        go_wp2_with fail
        go_quiet (fail)
        go_wp2_with fail
        go_ret
        exact ⟨ret_bool (by rw [HB.out, e1, e2]; simp), _, rfl⟩

end Go.Proofs.YtfcjnoojcajljaaGreatDoor

/-
  The contracts of sameField, slices.EqualFunc over it, Equal, slices.Clone of texts, and Texts.
-/
namespace Go.Proofs.YtfcjnoojcajljaaGreatDoor
open Go.RowKit

theorem toList_eq (a b : ByteArray) : (a.toList == b.toList) = decide (a = b) := by
  rw [Bool.eq_iff_iff]
  simp only [beq_iff_eq, decide_eq_true_eq]
  constructor
  · intro h
    rw [Lib.toList_data, Lib.toList_data] at h
    obtain ⟨⟨l⟩⟩ := a
    obtain ⟨⟨m⟩⟩ := b
    simp at h
    rw [h]
  · rintro rfl; rfl

end Go.Proofs.YtfcjnoojcajljaaGreatDoor

/-
  The contracts of SameTexts, SameFields and Same of the reference.
-/
namespace Go.Proofs.YtfcjnoojcajljaaGreatDoor
open Go.RowKit

theorem str_ne {s t : ByteArray} (h : ¬ s = t) : (s.toList == t.toList) = false := by
  rw [Lib.toList_data, Lib.toList_data, beq_eq_false_iff_ne]
  intro e
  apply h
  obtain ⟨⟨s⟩⟩ := s
  obtain ⟨⟨t⟩⟩ := t
  simp at e
  rw [e]

theorem TxtAt.draws {w : World} {p : Option Addr} {ts : List ByteArray} (h : TxtAt w p ts) (n : Nat) : TxtAt (w.drewN n) p ts := h

end Go.Proofs.YtfcjnoojcajljaaGreatDoor

/-
  The contracts of slices.Clone of texts, and of Texts.
-/
namespace Go.Proofs.YtfcjnoojcajljaaGreatDoor
open Go.RowKit

theorem cloneT_any (p : Option Addr) (cap : Nat) (ts : List ByteArray) (w : World) (h : TxtAt w p ts) (hs : ts.length * 16 ≤ 140737488355328) :
    Calls Tryz.prog 64 #[.slice p ts.length cap] w fun e w' => ∃ v, e = .returned v ∧ OwnT w.heap.size w' v ts ∧ Below w.heap.size w w' := by
  rcases h with rfl | ⟨b, off, rfl, hc⟩
  · cases p with
    | none =>
      refine (Tryz.slices_Clone_string_nil 0 cap w).mono ?_
      rintro e w' ⟨rfl, rfl⟩
      exact ⟨_, rfl, World.ownsRow_nil _ _ _ _, Below.refl _ _⟩
    | some a =>
      refine (Tryz.slices_Clone_string_zero a cap w).mono ?_
      rintro e w' ⟨v, rfl, ho, _, hb⟩
      exact ⟨_, rfl, ho, hb⟩
  · refine (Tryz.slices_Clone_string b off ts.length cap ts w (Nat.le_refl _) hs (fun j hj => ?_)).mono ?_
    · rw [hc j hj, List.getD_eq_getElem?_getD, List.getElem?_eq_getElem hj]; rfl
    · rintro e w' ⟨v, rfl, ho, _, hb⟩
      rw [List.take_length] at ho
      exact ⟨_, rfl, ho, hb⟩

/-- The texts of the first field of that name. -/
def textsOf (fs : List Fld) (n : ByteArray) : List ByteArray := ((fs.find? fun f => decide (f.1 = n)).map (·.2)).getD []

theorem textsOf_at (fs : List Fld) (n : ByteArray) (i : Nat) (hi : i < fs.length) (hn : ∀ j (h : j < i), (fs[j]'(by omega)).1 ≠ n) (he : fs[i].1 = n) : textsOf fs n = fs[i].2 := by
  unfold textsOf
  have : fs.find? (fun f => decide (f.1 = n)) = some fs[i] := by
    rw [List.find?_eq_some_iff_getElem]
    refine ⟨by simpa using he, i, hi, rfl, fun j hj => ?_⟩
    simpa using hn j hj
  rw [this]; rfl

theorem textsOf_no (fs : List Fld) (n : ByteArray) (hn : ∀ j (h : j < fs.length), fs[j].1 ≠ n) : textsOf fs n = [] := by
  unfold textsOf
  have : fs.find? (fun f => decide (f.1 = n)) = none := by
    rw [List.find?_eq_none]
    intro f hf
    obtain ⟨j, hj, rfl⟩ := List.mem_iff_getElem.1 hf
    simpa using hn j hj
  rw [this]; rfl

def TxPost (w : World) (ts : List ByteArray) (e : Ending) (w' : World) : Prop := (∃ v, e = .returned v ∧ OwnT w.heap.size w' v ts) ∧ Below w.heap.size w w'

set_option maxHeartbeats 4000000 in
set_option maxRecDepth 100000 in
theorem texts_any (v : Value) (nm : ByteArray) (d : List Fx) (w : World) (hv : IsXs w v d) (hf : FitX d) (h16 : ∀ x ∈ d, x.txt.length * 16 ≤ 140737488355328) :
    Calls Tryz.prog 39 #[v, .string nm] w fun e w' => TxPost w (textsOf (d.map Fx.fld) nm) e w' := by
  obtain ⟨p, cap, rfl, hd, ht⟩ := hv
  have HT := hid ht
  have HD := hid hd
  have H16 := hid h16
  have hl := hf.1
  unfold maxLen at hl
  clear ht hd hf h16
  go_enter Tryz.func39, Tryz.ntmps39
  go_wp2_with fail
  go_loopg [9] d.length (fun g vi wr => ∃ i : Nat, vi = .int .i64 i ∧ i ≤ d.length ∧ d.length - i ≤ g ∧ Grown w wr ∧ Hid (∀ j (h : j < d.length), j < i → d[j].name ≠ nm))
  case atStart => exact ⟨0, rfl, by omega, by omega, Grown.refl _, fun j _ h => by omega⟩
  case round =>
    obtain ⟨i, rfl, hi, hg, hb, HJ⟩ := hrel
    by_cases hlt : i < d.length
    · have hltz : (i : Int) < (d.length : Int) := by omega
      have hiz : (0 : Int) ≤ i := by omega
      obtain ⟨b, off, rfl, hxs⟩ : ∃ b off, p = some ⟨b, off, none⟩ ∧ XsAt w b off d := by
        rcases HD.out with h | h
        · subst h; simp at hlt
        · exact h
      obtain ⟨c0, c1⟩ := hxs.kept hb.below i hlt
      have hxi : (d[i]).at w := HT.out _ (List.getElem_mem hlt)
      have hs16 := H16.out _ (List.getElem_mem hlt)
      have hyes : d[i].name = nm → textsOf (d.map Fx.fld) nm = d[i].txt := fun e => by
        have := textsOf_at (d.map Fx.fld) nm i (by rw [List.length_map]; exact hlt) (fun j hj => by simp only [List.getElem_map]; exact HJ.out j (by omega) hj) (by simp only [List.getElem_map]; exact e)
        simpa [Fx.fld] using this
      have hnx : d[i].name ≠ nm → ∀ j (h : j < d.length), j < i + 1 → d[j].name ≠ nm := fun e j h hj => by
        by_cases ej : j = i
        · subst ej; exact e
        · exact HJ.out j h (by omega)
      obtain ⟨x, hx⟩ : ∃ x, d[i] = x := ⟨_, rfl⟩
      rw [hx] at c0 c1 hxi hs16 hyes hnx
      have HXI := hid hxi
      have HYES := hid hyes
      have HNX := hid hnx
      clear hxs hxi hx hyes hnx
      unfold Fx.sl at c1
      have hgW : Grown w (wr.alloc (.cells #[.string x.name, .slice x.p x.txt.length x.cap] 43)) := hb.alloc _
      have HGW := hid hgW
      have HCL := hid (cloneT_any x.p x.cap x.txt _ (HXI.out.kept hgW.below) hs16)
      clear hgW
      cases hq : (x.name.toList == nm.toList) with
      | true =>
        have hq2 : x.name = nm := by rw [toList_eq, decide_eq_true_eq] at hq; exact hq
        have HQ := hid (HYES.out hq2)
        clear hq2
        go_wp2_with (first | (go_at_call 64; refine HCL.out.mono ?_; rintro e w2 ⟨u, rfl, ho, hb2⟩))
        go_ret
        refine ⟨⟨_, rfl, ?_⟩, HGW.out.below.trans (hb2.mono HGW.out.below.size)⟩
        rw [HQ.out]
        exact own_weak ho HGW.out.below.size
      | false =>
        have hq2 : x.name ≠ nm := by rw [toList_eq, decide_eq_false_iff_not] at hq; exact hq
        have HQ := hid (HNX.out hq2)
        clear hq2
        go_wp2_with fail
        go_roundg (d.length - (i + 1))
        case measure => omega
        exact ⟨i + 1, by go_num, by omega, by omega, HGW.out, HQ.out⟩
    · have hltz : ¬ (i : Int) < (d.length : Int) := by omega
      have H0 : Hid (textsOf (d.map Fx.fld) nm = []) := textsOf_no _ _ (fun j hj => by
        rw [List.length_map] at hj
        simp only [List.getElem_map]
        exact HJ.out j hj (by omega))
      go_wp2_with fail
      go_ret
      refine ⟨⟨_, rfl, ?_⟩, hb.below⟩
      rw [H0.out]
      exact World.ownsRow_nil _ _ _ _

end Go.Proofs.YtfcjnoojcajljaaGreatDoor

/-
  An append of a row that came in, whatever its length; a row of fields whose texts lie elsewhere.
-/
namespace Go.Proofs.YtfcjnoojcajljaaGreatDoor
open Go.RowKit Go.Lib

theorem grownBy_refl (w : World) (g : Option Nat) : w.grownBy w g := ⟨rfl, rfl, rfl, Nat.le_refl _, fun _ _ _ => rfl⟩

theorem wpList_append_rows {ops : Array Oper} {rest : List Oper} {o : Oper} {a : Act} {Q : Exit → Act → World → Prop} (w : World) (hgd : o.guard = none) (s x : Operand) (t : TypeId)
    (ho : o.op = .call { callee := .builtin .append, args := #[s, x], argTypes := #[t, t] })
    (base : Nat) (e : TypeId) (i : TypeInfo) (z : Value) (size bytes : Nat) (ht : Tryz.prog.underlying t = some (.slice e)) (hi : Tryz.prog.info? e = some i) (hz : i.zero = some z)
    (hsize : i.size = size) (hby : i.bytes = bytes) (hzs : z.cells.size = size) (hsz : 0 < size)
    (v : Value) (n : Nat) (xs : List Value) (hs : a.eval s = v) (hown : w.ownsRow base e size v n xs)
    (p : Option Addr) (m c : Nat) (news : List Value) (hx : a.eval x = .slice p m c) (hl : news.length = m * size)
    (hsrc : m = 0 ∨ ∃ ad, p = some ad ∧ ∀ j u, news[j]? = some u → w.cell? (ad.add j) = some u) (h1 : ∀ u ∈ news, u.oneCell' = true)
    (h63 : n + m ≤ maxLen) (hbytes : (n + m) * bytes ≤ 140737488355328) (hbase : base ≤ w.heap.size)
    (h : ∀ v' w', w'.ownsRow base e size v' (n + m) (xs ++ news) → w.grownBy w' v.ownBlock → wpList Tryz.prog ops Q rest (a.put o.dst v') w') :
    wpList Tryz.prog ops Q (o :: rest) a w := by
  rcases hsrc with rfl | ⟨ad, rfl, hc⟩
  · have hn : news = [] := List.length_eq_zero_iff.1 (by simpa using hl)
    subst hn
    obtain ⟨q, cap, hv, hcap, hq⟩ : ∃ q cap, v = .slice q n cap ∧ n ≤ cap ∧ (q = none → n = 0 ∧ cap = 0) := by
      rcases hown.2 with ⟨hv, h0⟩ | ⟨g, cap, cur, hv, _, _, hc, _⟩
      · exact ⟨none, 0, by rw [hv, h0], by omega, fun _ => ⟨h0, rfl⟩⟩
      · exact ⟨_, cap, hv, hc, fun h => by cases h⟩
    have hrun : (Builtin.append_ #[t, t] o.type #[.slice q n cap, .slice p 0 c]).run Tryz.prog w = .ok (.slice q n cap) w := by
      cases q with
      | none =>
        obtain ⟨rfl, rfl⟩ := hq rfl
        cases p <;> simp [Builtin.append_, run_underlying ht, Builtin.lenOf, Builtin.firstCells, sizeOf, typeInfo, hi, loadCells, loadCellsFrom]
      | some q =>
        cases p <;> simp [Builtin.append_, run_underlying ht, Builtin.lenOf, Builtin.firstCells, sizeOf, typeInfo, hi, storeCells, loadCells, loadCellsFrom, hcap]
    rw [hv] at hs
    refine wpList_plain hgd fun K hK' => ?_
    unfold Oper.wp
    simp [execOp, ho, resolve, invoke, builtin, hs, hx, hrun, Result.andThen]
    refine hK' _ _ (h _ _ ?_ (grownBy_refl _ _))
    rw [← hv, List.append_nil]
    exact hown
  · exact wpList_append_own _ hgd s x t ho base e i z size bytes ht hi hz hsize hby hzs hsz v n xs hs hown ad m c news hx hl hc h1 h63 hbytes hbase (fun v' w' h2 h3 _ => h v' w' h2 h3)

/-- v owns a row of the fields d, in a block at or behind n0; their texts lie anywhere. -/
def RowX (n0 : Nat) (w : World) (v : Value) (d : List Fx) : Prop := w.ownsRow n0 43 2 v d.length (cellsX d)

theorem RowX.is {n0 : Nat} {w : World} {v : Value} {d : List Fx} (h1 : RowX n0 w v d) (h2 : ∀ x ∈ d, x.at w) : IsXs w v d := by
  rcases h1.2 with ⟨rfl, h0⟩ | ⟨g, c, cur, rfl, _, hg, _, _, hsz, htk⟩
  · obtain rfl := List.length_eq_zero_iff.1 h0
    exact ⟨none, 0, rfl, Or.inl rfl, fun x hx => by simp at hx⟩
  · refine ⟨_, c, rfl, Or.inr ⟨g, 0, rfl, fun i hi => ?_⟩, h2⟩
    obtain ⟨c0, c1⟩ := cellsX_get d i hi
    have e : ∀ j, j < d.length * 2 → (cellsX d)[j]? = cur[j]? := fun j hj => by
      rw [← htk, List.getElem?_take, if_pos hj, Array.getElem?_toList]
    rw [Nat.zero_add, cell_of_row w g _ cur _ _ hg, cell_of_row w g _ cur _ _ hg, ← e _ (by omega), ← e _ (by omega)]
    exact ⟨c0, c1⟩

/-- What a slice of fields gives an append. -/
theorem src_xs {w : World} {p : Option Addr} {d : List Fx} (h : d = [] ∨ ∃ b off, p = some ⟨b, off, none⟩ ∧ XsAt w b off d) :
    d.length = 0 ∨ ∃ ad, p = some ad ∧ ∀ j u, (cellsX d)[j]? = some u → w.cell? (ad.add j) = some u := by
  rcases h with rfl | ⟨b, off, rfl, hx⟩
  · exact Or.inl rfl
  · refine Or.inr ⟨_, rfl, fun j u hu => ?_⟩
    have hj : j < d.length * 2 := by
      have := (List.getElem?_eq_some_iff.1 hu).1
      rwa [cellsX_len] at this
    have hk : j / 2 < d.length := by omega
    obtain ⟨c0, c1⟩ := cellsX_get d (j / 2) hk
    obtain ⟨m0, m1⟩ := hx (j / 2) hk
    rw [addr_add]
    by_cases e : j % 2 = 0
    · have ej : j = j / 2 * 2 := by omega
      rw [ej] at hu ⊢
      rw [c0] at hu
      rw [m0]; exact hu
    · have ej : j = j / 2 * 2 + 1 := by omega
      rw [ej] at hu ⊢
      rw [c1] at hu
      rw [← Nat.add_assoc, m1]; exact hu

/-- What a slice of texts gives an append. -/
theorem src_ts {w : World} {p : Option Addr} {ts : List ByteArray} (h : TxtAt w p ts) :
    ts.length = 0 ∨ ∃ ad, p = some ad ∧ ∀ j u, (ts.map Value.string)[j]? = some u → w.cell? (ad.add j) = some u := by
  rcases h with rfl | ⟨b, off, rfl, hx⟩
  · exact Or.inl rfl
  · refine Or.inr ⟨_, rfl, fun j u hu => ?_⟩
    have hj : j < ts.length := by simpa using (List.getElem?_eq_some_iff.1 hu).1
    rw [addr_add, hx j hj]
    rw [List.getElem?_map, List.getElem?_eq_getElem hj] at hu
    exact hu

theorem txts_one (ts : List ByteArray) : ∀ u ∈ ts.map Value.string, u.oneCell' = true := by
  intro u hu
  obtain ⟨t, _, rfl⟩ := List.mem_map.1 hu
  rfl

/-- What the reference's Texts answers. -/
def RtPost (w : World) (ts : List ByteArray) (e : Ending) (w' : World) : Prop := (∃ p c, e = .returned (.slice p ts.length c) ∧ TxtAt w p ts) ∧ w' = w

set_option maxHeartbeats 2000000 in
set_option maxRecDepth 100000 in
theorem rtexts_any (v : Value) (nm : ByteArray) (d : List Fx) (w : World) (hv : IsXs w v d) (hf : FitX d) :
    Calls Tryz.prog 65 #[v, .string nm] w fun e w' => RtPost w (textsOf (d.map Fx.fld) nm) e w' := by
  obtain ⟨p, cap, rfl, hd, ht⟩ := hv
  have HT := hid ht
  have HD := hid hd
  have hl := hf.1
  unfold maxLen at hl
  clear ht hd hf
  go_enter Tryz.func65, Tryz.ntmps65
  go_wp2_with fail
  go_loopg [5] d.length (fun g vi wr => ∃ i : Nat, vi = .int .i64 i ∧ i ≤ d.length ∧ d.length - i ≤ g ∧ w = wr ∧ Hid (∀ j (h : j < d.length), j < i → d[j].name ≠ nm))
  case atStart => exact ⟨0, rfl, by omega, by omega, rfl, fun j _ h => by omega⟩
  case round =>
    obtain ⟨i, rfl, hi, hg, rfl, HJ⟩ := hrel
    by_cases hlt : i < d.length
    · have hltz : (i : Int) < (d.length : Int) := by omega
      have hiz : (0 : Int) ≤ i := by omega
      obtain ⟨b, off, rfl, hxs⟩ : ∃ b off, p = some ⟨b, off, none⟩ ∧ XsAt w b off d := by
        rcases HD.out with h | h
        · subst h; simp at hlt
        · exact h
      obtain ⟨c0, c1⟩ := hxs i hlt
      have hxi : (d[i]).at w := HT.out _ (List.getElem_mem hlt)
      have hyes : d[i].name = nm → textsOf (d.map Fx.fld) nm = d[i].txt := fun e => by
        have := textsOf_at (d.map Fx.fld) nm i (by rw [List.length_map]; exact hlt) (fun j hj => by simp only [List.getElem_map]; exact HJ.out j (by omega) hj) (by simp only [List.getElem_map]; exact e)
        simpa [Fx.fld] using this
      have hnx : d[i].name ≠ nm → ∀ j (h : j < d.length), j < i + 1 → d[j].name ≠ nm := fun e j h hj => by
        by_cases ej : j = i
        · subst ej; exact e
        · exact HJ.out j h (by omega)
      obtain ⟨x, hx⟩ : ∃ x, d[i] = x := ⟨_, rfl⟩
      rw [hx] at c0 c1 hxi hyes hnx
      have HXI := hid hxi
      have HYES := hid hyes
      have HNX := hid hnx
      clear hxs hxi hx hyes hnx
      unfold Fx.sl at c1
      cases hq : (x.name.toList == nm.toList) with
      | true =>
        have hq2 : x.name = nm := by rw [toList_eq, decide_eq_true_eq] at hq; exact hq
        have HQ := hid (HYES.out hq2)
        clear hq2
        go_wp2_with fail
        go_ret
        rw [HQ.out]
        exact ⟨⟨_, _, rfl, HXI.out⟩, rfl⟩
      | false =>
        have hq2 : x.name ≠ nm := by rw [toList_eq, decide_eq_false_iff_not] at hq; exact hq
        have HQ := hid (HNX.out hq2)
        clear hq2
        go_wp2_with fail
        go_roundg (d.length - (i + 1))
        case measure => omega
        exact ⟨i + 1, by go_num, by omega, by omega, rfl, HQ.out⟩
    · have hltz : ¬ (i : Int) < (d.length : Int) := by omega
      have H0 : Hid (textsOf (d.map Fx.fld) nm = []) := textsOf_no _ _ (fun j hj => by
        rw [List.length_map] at hj
        simp only [List.getElem_map]
        exact HJ.out j hj (by omega))
      go_wp2_with fail
      go_ret
      rw [H0.out]
      exact ⟨⟨none, 0, rfl, Or.inl rfl⟩, rfl⟩

end Go.Proofs.YtfcjnoojcajljaaGreatDoor

/-
  What terms mean; the contracts of the reference's begins, Holds and Match.
-/
namespace Go.Proofs.YtfcjnoojcajljaaGreatDoor
open Go.RowKit

/-- Does s begin with t? -/
def beginsB (s t : ByteArray) : Bool := decide (t.size ≤ s.size) && ((s.extract 0 t.size).toList == t.toList)

/-- Does a term hold of these texts? -/
def holdsT (x : Tm) (ts : List ByteArray) : Bool :=
  if x.2.1 = 1 then ts.any (tokenB x.2.2) else if x.2.1 = 2 then !ts.any (tokenB x.2.2) else if x.2.1 = 3 then ts.any (fun t => beginsB t x.2.2) else
  if x.2.1 = 4 then ts.any (fun t => ltB t x.2.2) else if x.2.1 = 5 then ts.any (fun t => ltB x.2.2 t) else if x.2.1 = 6 then decide (0 < ts.length) else if x.2.1 = 7 then decide (ts.length = 0) else false
def holdsM (x : Tm) (fs : List Fld) : Bool := holdsT x (textsOf fs x.1)
def matchM (p : List Tm) (fs : List Fld) : Bool := p.all fun x => holdsM x fs

set_option maxHeartbeats 1000000 in
theorem rbegins_any (s t : ByteArray) (w : World) (ht : t.size ≤ maxLen) :
    Calls Tryz.prog 67 #[.string s, .string t] w fun e w' => e = .returned (.bool (beginsB s t)) ∧ w' = w := by
  unfold maxLen at ht
  have HB : Hid (beginsB s t = (decide (t.size ≤ s.size) && ((s.extract 0 t.size).toList == t.toList))) := rfl
  by_cases h : t.size ≤ s.size
  · have hz : (t.size : Int) ≤ (s.size : Int) := by omega
    have h0 : (0 : Int) ≤ (t.size : Int) := by omega
    have hd : decide (t.size ≤ s.size) = true := decide_eq_true h
    have HV : Hid (beginsB s t = ((s.extract 0 t.size).toList == t.toList)) := by show _ = _; rw [HB.out, hd]; rfl
    clear hd
    go_enter Tryz.func67, Tryz.ntmps67
    go_wp2_with fail
    go_ret
    exact ⟨ret_bool HV.out.symm, rfl⟩
  · have hz : ¬ (t.size : Int) ≤ (s.size : Int) := by omega
    have HV : Hid (beginsB s t = false) := by show _ = _; rw [HB.out, decide_eq_false h]; rfl
    go_enter Tryz.func67, Tryz.ntmps67
    go_wp2_with fail
    go_ret
    exact ⟨ret_bool HV.out.symm, rfl⟩

theorem any_snocT {ts : List ByteArray} {f : ByteArray → Bool} {i : Nat} (h : i < ts.length) : (ts.take (i + 1)).any f = ((ts.take i).any f || f ts[i]) := by
  rw [List.take_succ_eq_append_getElem h, List.any_append]
  simp

theorem gtr_of (t x : ByteArray) : (!ltB t x && !(t.toList == x.toList)) = ltB x t := by
  rcases ltB_cases t x with h | h | h
  · rw [h, ltB_asymm h]; rfl
  · subst h; rw [ltB_irrefl]; simp
  · rw [h, ltB_asymm h, seq_false (fun e => by subst e; rw [ltB_irrefl] at h; cases h)]; rfl

set_option maxHeartbeats 8000000 in
set_option maxRecDepth 100000 in
theorem rholds_any (x : Tm) (v : Value) (d : List Fx) (w : World) (hv : IsXs w v d) (hf : FitX d) (hx : x.2.2.size ≤ maxLen) :
    Calls Tryz.prog 40 #[.agg #[.string x.1, .int .i64 x.2.1, .string x.2.2], v] w fun e w' => e = .returned (.bool (holdsM x (d.map Fx.fld))) ∧ Grown w w' := by
  obtain ⟨xf, xo, xt⟩ := x
  simp only at hx ⊢
  have hbox : Below w.heap.size w (w.alloc (.cells #[.string xf, .int .i64 xo, .string xt] 39)) := (Below.refl _ _).alloc (Nat.le_refl _) _
  have HT := hid (rtexts_any v xf d _ (hv.kept hbox) hf)
  have hfit : ∀ t ∈ textsOf (d.map Fx.fld) xf, t.size ≤ maxLen := fun t ht => by
    unfold textsOf at ht
    cases hfd : (d.map Fx.fld).find? fun f => decide (f.1 = xf) with
    | none => rw [hfd] at ht; simp at ht
    | some f =>
      rw [hfd] at ht
      obtain ⟨y, hy, rfl⟩ := List.mem_map.1 (List.mem_of_find?_eq_some hfd)
      exact (hf.2 y hy).2.2 t ht
  have hlen : (textsOf (d.map Fx.fld) xf).length ≤ maxLen := by
    unfold textsOf
    cases hfd : (d.map Fx.fld).find? fun f => decide (f.1 = xf) with
    | none => unfold maxLen; simp
    | some f =>
      obtain ⟨y, hy, rfl⟩ := List.mem_map.1 (List.mem_of_find?_eq_some hfd)
      exact (hf.2 y hy).2.1
  have HH : Hid (holdsM (xf, xo, xt) (d.map Fx.fld) = holdsT (xf, xo, xt) (textsOf (d.map Fx.fld) xf)) := rfl
  obtain ⟨ts, hts⟩ : ∃ ts, textsOf (d.map Fx.fld) xf = ts := ⟨_, rfl⟩
  rw [hts] at HT hfit hlen HH
  rw [HH.out]
  have HFT := hid hfit
  unfold maxLen at hlen
  have HXS := hid hx
  have HG1 : Hid (Grown w (w.alloc (.cells #[.string xf, .int .i64 xo, .string xt] 39))) := (Grown.refl _).alloc _
  clear hv hf hx hbox hfit hts HH
  have mixed := Tryz.mixed
  obtain ⟨W1, hW1⟩ : ∃ W1, w.alloc (.cells #[.string xf, .int .i64 xo, .string xt] 39) = W1 := ⟨_, rfl⟩
  have hbk : W1.heap[w.heap.size]? = some (.cells #[.string xf, .int .i64 xo, .string xt] 39 (0, 0)) := by rw [← hW1]; exact heap_alloc_new _ _
  have k0 : ∀ n, (W1.drewN n).cell? ⟨w.heap.size, 0, none⟩ = some (.string xf) := fun n => by rw [Lib.cell_of_heap (show (W1.drewN n).heap[w.heap.size]? = _ from hbk)]; rfl
  have k1 : ∀ n, (W1.drewN n).cell? ⟨w.heap.size, 1, none⟩ = some (.int .i64 xo) := fun n => by rw [Lib.cell_of_heap (show (W1.drewN n).heap[w.heap.size]? = _ from hbk)]; rfl
  have k2 : ∀ n, (W1.drewN n).cell? ⟨w.heap.size, 2, none⟩ = some (.string xt) := fun n => by rw [Lib.cell_of_heap (show (W1.drewN n).heap[w.heap.size]? = _ from hbk)]; rfl
  rw [hW1] at HT HG1
  have e0 : W1.cell? ⟨w.heap.size, 0, none⟩ = some (.string xf) := k0 0
  clear hbk
  go_enter Tryz.func40, Tryz.ntmps40
  go_wp2_with (first | (go_at_call 65; refine HT.out.mono ?_; rintro e w1 ⟨⟨pl, cl, rfl, tl⟩, rfl⟩))
  have HTL := hid tl
  clear tl
  go_loopg [6, 7, 8, 9, 10] ts.length (fun g v6 v7 v8 v9 vi ws => ∃ i n : Nat, vi = .int .i64 i ∧ i ≤ ts.length ∧ ts.length - i ≤ g ∧ v6 = .bool ((ts.take i).any (tokenB xt)) ∧ v7 = .bool ((ts.take i).any (fun t => beginsB t xt)) ∧ v8 = .bool ((ts.take i).any (fun t => ltB t xt)) ∧ v9 = .bool ((ts.take i).any (fun t => ltB xt t)) ∧ ws = w1.drewN n)
  case atStart => exact ⟨0, 0, rfl, by omega, by omega, by simp, by simp, by simp, by simp, rfl⟩
  case round =>
    obtain ⟨i, n, rfl, hi, hgk, rfl, rfl, rfl, rfl, rfl⟩ := hrel
    by_cases hlt : i < ts.length
    · have hltz : (i : Int) < (ts.length : Int) := by omega
      have hiz : (0 : Int) ≤ (i : Int) := by omega
      obtain ⟨bt, ot, rfl, hct⟩ : ∃ b off, pl = some ⟨b, off, none⟩ ∧ ∀ i, (h : i < ts.length) → w1.cell? ⟨b, off + i, none⟩ = some (.string ts[i]) := by
        rcases HTL.out with h | h
        · rw [h] at hlt; simp at hlt
        · exact h
      have H6 := hid (any_snocT (f := tokenB xt) hlt)
      have H7 := hid (any_snocT (f := fun t => beginsB t xt) hlt)
      have H8 := hid (any_snocT (f := fun t => ltB t xt) hlt)
      have H9 := hid (any_snocT (f := fun t => ltB xt t) hlt)
      have hts := HFT.out _ (List.getElem_mem hlt)
      have hkf : ∀ m, (w1.drewN m).cell? ⟨w.heap.size, 2, none⟩ = some (.string xt) ∧ (w1.drewN m).cell? ⟨bt, ot + i, none⟩ = some (.string ts[i]) := fun m => ⟨k2 m, hct i hlt⟩
      obtain ⟨t, ht⟩ : ∃ t, ts[i] = t := ⟨_, rfl⟩
      rw [ht] at hkf H6 H7 H8 H9 hts
      have KF := hid hkf
      have HTK := hid (fun W => rtoken_any xt t W HXS.out hts)
      have HBG := hid (fun W => rbegins_any t xt W HXS.out)
      obtain ⟨B6, hB6⟩ : ∃ B, (ts.take i).any (tokenB xt) = B := ⟨_, rfl⟩
      obtain ⟨B7, hB7⟩ : ∃ B, (ts.take i).any (fun t => beginsB t xt) = B := ⟨_, rfl⟩
      obtain ⟨B8, hB8⟩ : ∃ B, (ts.take i).any (fun t => ltB t xt) = B := ⟨_, rfl⟩
      obtain ⟨B9, hB9⟩ : ∃ B, (ts.take i).any (fun t => ltB xt t) = B := ⟨_, rfl⟩
      rw [hB6] at H6 ⊢
      rw [hB7] at H7 ⊢
      rw [hB8] at H8 ⊢
      rw [hB9] at H9 ⊢
      obtain ⟨L8, hL8⟩ : ∃ B, ltB t xt = B := ⟨_, rfl⟩
      obtain ⟨L9, hL9⟩ : ∃ B, ltB xt t = B := ⟨_, rfl⟩
      have hg9 := gtr_of t xt
      rw [hL8, hL9] at hg9
      have HG9 := hid hg9
      clear hg9
      rw [hL8] at H8
      rw [hL9] at H9
      have g8 := sless_of hL8
      have g9 := sless_of hL9
      obtain ⟨W, hW⟩ : ∃ W, w1.drewN n = W := ⟨_, rfl⟩
      obtain ⟨f2, ct⟩ := hkf n
      rw [hW] at f2 ct ⊢
      have HW := hid hW
      clear hB6 hB7 hB8 hB9 hct ht hkf hts hW hL8 hL9
      go_upto_region 6 with fail
      go_cut [6] from 15 to 60 (fun v wx => (∃ m, wx = w1.drewN m) ∧ v = .bool (B6 || tokenB xt t))
      case first =>
        cases B6 with
        | true =>
          refine wp_region_quiet_lit mixed (by kernel_rfl) ?_
          repeat (go_big_quiet_step (fail))
          refine wpQuiet_nil ?_
          intro _ hw'
          obtain ⟨nq, hw''⟩ := hw'
          subst hw''
          go_wp2_with fail
          go_meet
          case rel => exact ⟨⟨_, by rw [← HW.out, World.drewN_drewN]⟩, rfl⟩
        | false =>
          refine wp_region_quiet_lit mixed (by kernel_rfl) ?_
          repeat (go_big_quiet_step (first | (go_at_call 66; refine Calls.quiet_of (HTK.out _))))
          refine wpQuiet_nil ?_
          intro _ hw'
          obtain ⟨nq, hw''⟩ := hw'
          subst hw''
          go_wp2_with fail
          go_meet
          case rel => exact ⟨⟨_, by rw [← HW.out, World.drewN_drewN]⟩, rfl⟩
      case rest =>
      obtain ⟨⟨m6, rfl⟩, rfl⟩ := hcut
      clear f2 ct HW
      obtain ⟨W, hW⟩ : ∃ W, w1.drewN m6 = W := ⟨_, rfl⟩
      obtain ⟨f2, ct⟩ := KF.out m6
      rw [hW] at f2 ct ⊢
      have HW := hid hW
      clear hW
      go_upto_region 7 with fail
      go_cut [7] from 15 to 60 (fun v wx => (∃ m, wx = w1.drewN m) ∧ v = .bool (B7 || beginsB t xt))
      case first =>
        cases B7 with
        | true =>
          refine wp_region_quiet_lit mixed (by kernel_rfl) ?_
          repeat (go_big_quiet_step (fail))
          refine wpQuiet_nil ?_
          intro _ hw'
          obtain ⟨nq, hw''⟩ := hw'
          subst hw''
          go_wp2_with fail
          go_meet
          case rel => exact ⟨⟨_, by rw [← HW.out, World.drewN_drewN]⟩, rfl⟩
        | false =>
          refine wp_region_quiet_lit mixed (by kernel_rfl) ?_
          repeat (go_big_quiet_step (first | (go_at_call 67; refine Calls.quiet_of_same (HBG.out _))))
          refine wpQuiet_nil ?_
          intro _ hw'
          obtain ⟨nq, hw''⟩ := hw'
          subst hw''
          go_wp2_with fail
          go_meet
          case rel => exact ⟨⟨_, by rw [← HW.out, World.drewN_drewN]⟩, rfl⟩
      case rest =>
      obtain ⟨⟨m7, rfl⟩, rfl⟩ := hcut
      clear f2 ct HW
      obtain ⟨W, hW⟩ : ∃ W, w1.drewN m7 = W := ⟨_, rfl⟩
      obtain ⟨f2, ct⟩ := KF.out m7
      rw [hW] at f2 ct ⊢
      have HW := hid hW
      clear hW
      go_upto_region 8 with fail
      go_cut [8] from 15 to 60 (fun v wx => (∃ m, wx = w1.drewN m) ∧ v = .bool (B8 || L8))
      case first =>
        cases B8 with
        | true =>
          refine wp_region_quiet_lit mixed (by kernel_rfl) ?_
          repeat (go_big_quiet_step (fail))
          refine wpQuiet_nil ?_
          intro _ hw'
          obtain ⟨nq, hw''⟩ := hw'
          subst hw''
          go_wp2_with fail
          go_meet
          case rel => exact ⟨⟨_, by rw [← HW.out, World.drewN_drewN]⟩, rfl⟩
        | false =>
          refine wp_region_quiet_lit mixed (by kernel_rfl) ?_
          repeat (go_big_quiet_step (fail))
          refine wpQuiet_nil ?_
          intro _ hw'
          obtain ⟨nq, hw''⟩ := hw'
          subst hw''
          go_wp2_with fail
          go_meet
          case rel => exact ⟨⟨_, by rw [← HW.out, World.drewN_drewN]⟩, rfl⟩
      case rest =>
      obtain ⟨⟨m8, rfl⟩, rfl⟩ := hcut
      clear f2 ct HW
      obtain ⟨W, hW⟩ : ∃ W, w1.drewN m8 = W := ⟨_, rfl⟩
      obtain ⟨f2, ct⟩ := KF.out m8
      rw [hW] at f2 ct ⊢
      have HW := hid hW
      clear hW
      cases B9 with
      | true =>
        go_wp2_with fail
        refine wp_region_quiet_lit mixed (by kernel_rfl) ?_
        repeat (go_big_quiet_step (fail))
        refine wpQuiet_nil ?_
        intro _ hw'
        obtain ⟨nq, hw''⟩ := hw'
        subst hw''
        go_wp2_with fail
        go_roundg (ts.length - (i + 1))
        case measure => omega
        case rel => exact ⟨i + 1, m8 + nq, by go_num, by omega, by omega, by rw [H6.out], by rw [H7.out], by rw [H8.out], by rw [H9.out]; rfl, by rw [← HW.out, World.drewN_drewN]⟩
      | false =>
        go_wp2_with fail
        refine wp_region_quiet_lit mixed (by kernel_rfl) ?_
        repeat (go_big_quiet_step (fail))
        refine wpQuiet_nil ?_
        intro _ hw'
        obtain ⟨nq, hw''⟩ := hw'
        subst hw''
        go_wp2_with fail
        go_roundg (ts.length - (i + 1))
        case measure => omega
        case rel => exact ⟨i + 1, m8 + nq, by go_num, by omega, by omega, by rw [H6.out], by rw [H7.out], by rw [H8.out], by rw [H9.out, ← HG9.out]; rfl, by rw [← HW.out, World.drewN_drewN]⟩
    · have hltz : ¬ (i : Int) < (ts.length : Int) := by omega
      rw [List.take_of_length_le (by omega)]
      have e1 := k1 n
      have HHT : Hid (holdsT (xf, xo, xt) ts = if xo = 1 then ts.any (tokenB xt) else if xo = 2 then !ts.any (tokenB xt) else if xo = 3 then ts.any (fun t => beginsB t xt) else if xo = 4 then ts.any (fun t => ltB t xt) else if xo = 5 then ts.any (fun t => ltB xt t) else if xo = 6 then decide (0 < ts.length) else if xo = 7 then decide (ts.length = 0) else false) := rfl
      have HGR : Hid (Grown w (w1.drewN n)) := HG1.out.drewN n
      have z6 : decide ((0 : Int) < (ts.length : Int)) = decide (0 < ts.length) := by rw [decide_eq_decide]; omega
      have z7 : ((ts.length : Int) == 0) = decide (ts.length = 0) := by rw [Bool.eq_iff_iff, beq_iff_eq, decide_eq_true_iff]; omega
      have Z6 := hid z6
      have Z7 := hid z7
      clear z6 z7
      by_cases h1 : xo = 1
      · have HV := HHT.out
        rw [if_pos h1] at HV
        have HVV := hid HV
        subst h1
        clear HV HHT 
        go_wp2_with fail
        go_ret
        exact ⟨ret_bool (by rw [HVV.out]), HGR.out⟩
      have d1 : (xo == 1) = false := beq_eq_false_iff_ne.2 h1
      by_cases h2 : xo = 2
      · have HV := HHT.out
        rw [if_neg h1, if_pos h2] at HV
        have HVV := hid HV
        subst h2
        clear HV HHT h1
        go_wp2_with fail
        go_ret
        exact ⟨ret_bool (by rw [HVV.out]), HGR.out⟩
      have d2 : (xo == 2) = false := beq_eq_false_iff_ne.2 h2
      by_cases h3 : xo = 3
      · have HV := HHT.out
        rw [if_neg h1, if_neg h2, if_pos h3] at HV
        have HVV := hid HV
        subst h3
        clear HV HHT h1 h2
        go_wp2_with fail
        go_ret
        exact ⟨ret_bool (by rw [HVV.out]), HGR.out⟩
      have d3 : (xo == 3) = false := beq_eq_false_iff_ne.2 h3
      by_cases h4 : xo = 4
      · have HV := HHT.out
        rw [if_neg h1, if_neg h2, if_neg h3, if_pos h4] at HV
        have HVV := hid HV
        subst h4
        clear HV HHT h1 h2 h3
        go_wp2_with fail
        go_ret
        exact ⟨ret_bool (by rw [HVV.out]), HGR.out⟩
      have d4 : (xo == 4) = false := beq_eq_false_iff_ne.2 h4
      by_cases h5 : xo = 5
      · have HV := HHT.out
        rw [if_neg h1, if_neg h2, if_neg h3, if_neg h4, if_pos h5] at HV
        have HVV := hid HV
        subst h5
        clear HV HHT h1 h2 h3 h4
        go_wp2_with fail
        go_ret
        exact ⟨ret_bool (by rw [HVV.out]), HGR.out⟩
      have d5 : (xo == 5) = false := beq_eq_false_iff_ne.2 h5
      by_cases h6 : xo = 6
      · have HV := HHT.out
        rw [if_neg h1, if_neg h2, if_neg h3, if_neg h4, if_neg h5, if_pos h6] at HV
        have HVV := hid HV
        subst h6
        clear HV HHT h1 h2 h3 h4 h5
        go_wp2_with fail
        go_ret
        exact ⟨ret_bool (by rw [HVV.out]), HGR.out⟩
      have d6 : (xo == 6) = false := beq_eq_false_iff_ne.2 h6
      by_cases h7 : xo = 7
      · have HV := HHT.out
        rw [if_neg h1, if_neg h2, if_neg h3, if_neg h4, if_neg h5, if_neg h6, if_pos h7] at HV
        have HVV := hid HV
        subst h7
        clear HV HHT h1 h2 h3 h4 h5 h6
        go_wp2_with fail
        go_ret
        exact ⟨ret_bool (by rw [HVV.out]; first | rfl | exact Z7.out), HGR.out⟩
      have d7 : (xo == 7) = false := beq_eq_false_iff_ne.2 h7
      have HV := HHT.out
      rw [if_neg h1, if_neg h2, if_neg h3, if_neg h4, if_neg h5, if_neg h6, if_neg h7] at HV
      have HVV := hid HV
      clear HV HHT h1 h2 h3 h4 h5 h6 h7
      go_wp2_with fail
      go_ret
      exact ⟨ret_bool HVV.out.symm, HGR.out⟩

set_option maxHeartbeats 2000000 in
set_option maxRecDepth 100000 in
theorem rmatch_any (u v : Value) (p : List Tm) (d : List Fx) (w : World) (hu : KM.Is w u p) (hp : FitM p) (hv : IsXs w v d) (hf : FitX d) :
    Calls Tryz.prog 19 #[u, v] w fun e w' => e = .returned (.bool (matchM p (d.map Fx.fld))) ∧ Grown w w' := by
  obtain ⟨q, cap, rfl, hd⟩ := hu
  have hl := hp.1
  unfold maxLen at hl
  have HD := hid hd
  have HP := hid hp.2
  have HHO : Hid (∀ x ∈ p, ∀ W, Below w.heap.size w W → Calls Tryz.prog 40 #[.agg #[.string x.1, .int .i64 x.2.1, .string x.2.2], v] W fun e w' => e = .returned (.bool (holdsM x (d.map Fx.fld))) ∧ Grown W w') := fun x hx W hW => rholds_any x v d W (hv.kept hW) hf (hp.2 x hx).2.1
  obtain ⟨r, hr⟩ : ∃ r, matchM p (d.map Fx.fld) = r := ⟨_, rfl⟩
  rw [hr]
  have HR := hid hr
  clear hd hp hr hv hf
  go_enter Tryz.func19, Tryz.ntmps19
  go_wp2_with fail
  go_loopg [5] p.length (fun g vi ws => ∃ i : Nat, vi = .int .i64 i ∧ i ≤ p.length ∧ p.length - i ≤ g ∧ Hid (∀ j, (h : j < p.length) → j < i → holdsM p[j] (d.map Fx.fld) = true) ∧ Hid (Grown w ws))
  case atStart => exact ⟨0, rfl, by omega, by omega, fun j _ h => by omega, Grown.refl _⟩
  case round =>
    obtain ⟨i, rfl, hi, hgk, HJ, HG⟩ := hrel
    by_cases hlt : i < p.length
    · have hltz : (i : Int) < (p.length : Int) := by omega
      have hiz : (0 : Int) ≤ (i : Int) := by omega
      obtain ⟨b, off, rfl, hat⟩ : ∃ b off, q = some ⟨b, off, none⟩ ∧ KM.At w b off p := by
        rcases HD.out with h | h
        · subst h; simp at hlt
        · exact h
      obtain ⟨c0, c1, c2⟩ := km_cells (Kind.at_kept hat HG.out.below) i hlt
      have HC := hid (HHO.out _ (List.getElem_mem hlt) wr HG.out.below)
      cases hh : holdsM p[i] (d.map Fx.fld) with
      | false =>
        have H0 : Hid (r = false) := by
          show _ = _
          rw [← HR.out]
          unfold matchM
          rw [List.all_eq_false]
          exact ⟨p[i], List.getElem_mem hlt, by rw [hh]; simp⟩
        rw [hh] at HC
        generalize p[i] = x at c0 c1 c2 HC
        clear hat hh
        go_wp2_with (first | (go_at_call 40; refine HC.out.mono ?_; rintro e w2 ⟨rfl, g2⟩))
        go_ret
        exact ⟨ret_bool H0.out.symm, HG.out.trans g2⟩
      | true =>
        have HJ2 : Hid (∀ j, (h : j < p.length) → j < i + 1 → holdsM p[j] (d.map Fx.fld) = true) := fun j h hj => by
          by_cases e : j = i
          · subst e; exact hh
          · exact HJ.out j h (by omega)
        rw [hh] at HC
        generalize p[i] = x at c0 c1 c2 HC
        clear hat hh
        go_wp2_with (first | (go_at_call 40; refine HC.out.mono ?_; rintro e w2 ⟨rfl, g2⟩))
        go_roundg (p.length - (i + 1))
        case measure => omega
        case rel => exact ⟨i + 1, by go_num, by omega, by omega, HJ2, HG.out.trans g2⟩
    · have hltz : ¬ (i : Int) < (p.length : Int) := by omega
      have H0 : Hid (r = true) := by
        show _ = _
        rw [← HR.out]
        unfold matchM
        rw [List.all_eq_true]
        intro x hx
        obtain ⟨j, hj, rfl⟩ := List.mem_iff_getElem.1 hx
        exact HJ.out j hj (by omega)
      go_wp2_with fail
      go_ret
      exact ⟨ret_bool H0.out.symm, HG.out⟩

end Go.Proofs.YtfcjnoojcajljaaGreatDoor

/-
  The contracts of holds and Match.
-/
namespace Go.Proofs.YtfcjnoojcajljaaGreatDoor
open Go.RowKit Go.Lib

/-- A term in a block of its own. -/
def BoxM (w : World) (g : Nat) (x : Tm) : Prop := w.heap[g]? = some (.cells #[.string x.1, .int .i64 x.2.1, .string x.2.2] 39 (0, 0))
theorem BoxM.cells {w : World} {g : Nat} {x : Tm} (h : BoxM w g x) : w.cell? ⟨g, 0, none⟩ = some (.string x.1) ∧ w.cell? ⟨g, 1, none⟩ = some (.int .i64 x.2.1) ∧ w.cell? ⟨g, 2, none⟩ = some (.string x.2.2) := by
  rw [Lib.cell_of_heap h, Lib.cell_of_heap h, Lib.cell_of_heap h]
  exact ⟨rfl, rfl, rfl⟩
theorem BoxM.lt {w : World} {g : Nat} {x : Tm} (h : BoxM w g x) : g < w.heap.size := (Array.getElem?_eq_some_iff.1 h).1
theorem BoxM.on {w w' : World} {g : Nat} {x : Tm} (h : BoxM w g x) (hb : Below w.heap.size w w') : BoxM w' g x := (hb.block g h.lt).trans h
theorem boxM_new (w : World) (x : Tm) : BoxM (w.alloc (.cells #[.string x.1, .int .i64 x.2.1, .string x.2.2] 39)) w.heap.size x := heap_alloc_new w _

/-- What a term asks of a text. -/
def meetsT (x : Tm) (t : ByteArray) : Bool :=
  if x.2.1 = 1 ∨ x.2.1 = 2 then tokenB x.2.2 t else if x.2.1 = 3 then beginsB t x.2.2 else if x.2.1 = 4 then ltB t x.2.2 else if x.2.1 = 5 then ltB x.2.2 t else true

theorem begins_prefix (s t : ByteArray) : Lib.hasPrefix s.data.toList t.data.toList = beginsB s t := by
  unfold beginsB
  rw [toList_eq]
  by_cases h : t.size ≤ s.size
  · rw [decide_eq_true h, Bool.true_and]
    rw [Bool.eq_iff_iff, decide_eq_true_iff]
    have e : (s.extract 0 t.size).data.toList = s.data.toList.take t.size := by simp
    constructor
    · intro hp
      refine ba_eq ?_
      rw [e]
      have := List.prefix_iff_eq_take.1 (List.isPrefixOf_iff_prefix.1 hp)
      simpa using this.symm
    · intro he
      refine List.isPrefixOf_iff_prefix.2 ?_
      have : t.data.toList = s.data.toList.take t.size := by rw [← e, he]
      rw [this]
      exact List.take_prefix _ _
  · rw [decide_eq_false h, Bool.false_and, Bool.eq_false_iff]
    intro hp
    have := (List.isPrefixOf_iff_prefix.1 hp).length_le
    simp at this
    exact h this

/-- A text that a machine can hold. -/
def Bt : Type := { t : ByteArray // t.size ≤ maxLen }

theorem hasT_any (f : ByteArray → Bool) (k : Nat) (lb : Array Value) (ent : ∀ args w, (callFunc k args).run Tryz.prog w = .ok (.enter k args) w) (p : Option Addr) (cap : Nat) (ts : List ByteArray) (w : World) (h : TxtAt w p ts) (hf : FitT ts)
    (hk : ∀ (W : World) (t : ByteArray), Below w.heap.size w W → t.size ≤ maxLen → Calls Tryz.prog k (#[.string t] ++ lb) W fun e w' => e = .returned (.bool (f t)) ∧ ∃ q, w' = W.drewN q) :
    Calls Tryz.prog 63 #[.slice p ts.length cap, .func (.func k) #[] lb] w fun e w' => e = .returned (.bool (ts.any f)) ∧ ∃ q, w' = w.drewN q := by
  rcases h with rfl | ⟨b, off, rfl, hc⟩
  · refine (Tryz.slices_ContainsFunc_empty (α := ByteArray) p cap _ w).mono ?_
    rintro e w' ⟨rfl, rfl⟩
    exact ⟨rfl, 0, rfl⟩
  · have hl := hf.1
    unfold maxLen at hl
    obtain ⟨zs, hzs⟩ : ∃ zs : List Bt, zs.map (·.1) = ts := ⟨ts.attachWith _ hf.2, List.attachWith_map_subtype_val ..⟩
    have hzl : zs.length = ts.length := by rw [← hzs, List.length_map]
    letI : Inhabited Bt := ⟨⟨⟨#[]⟩, Nat.zero_le _⟩⟩
    refine (Tryz.slices_ContainsFunc (fun t : Bt => Value.string t.1) (fun t => f t.1) k lb ent b off ts.length cap zs w (fun W x hb => hk W x.1 hb x.2) (by omega) (by omega) ?_).mono ?_
    · intro j hj
      rw [getElem!_pos zs j hj]
      have e : (zs[j]).1 = ts[j]'(by omega) := by subst hzs; simp
      rw [e]
      exact hc j (by omega)
    · rintro e w' ⟨rfl, hq⟩
      refine ⟨ret_bool ?_, hq⟩
      rw [List.take_of_length_le (by omega), ← hzs]
      simp [List.any_map, Function.comp_def]

theorem enters_h1 : ∀ args w, (callFunc 56 args).run Tryz.prog w = .ok (.enter 56 args) w := enters_of Tryz.func56 (by kernel_rfl) rfl
theorem enters_h2 : ∀ args w, (callFunc 58 args).run Tryz.prog w = .ok (.enter 58 args) w := enters_of Tryz.func58 (by kernel_rfl) rfl
theorem enters_h3 : ∀ args w, (callFunc 60 args).run Tryz.prog w = .ok (.enter 60 args) w := enters_of Tryz.func60 (by kernel_rfl) rfl
theorem enters_h4 : ∀ args w, (callFunc 61 args).run Tryz.prog w = .ok (.enter 61 args) w := enters_of Tryz.func61 (by kernel_rfl) rfl
theorem enters_h5 : ∀ args w, (callFunc 62 args).run Tryz.prog w = .ok (.enter 62 args) w := enters_of Tryz.func62 (by kernel_rfl) rfl

set_option maxHeartbeats 1000000 in
theorem h1_any (g : Nat) (x : Tm) (t : ByteArray) (W : World) (hb : BoxM W g x) (hx : x.2.2.size ≤ maxLen) (ht : t.size ≤ maxLen) :
    Calls Tryz.prog 56 #[.string t, .pointer (some ⟨g, 0, none⟩)] W fun e w' => e = .returned (.bool (tokenB x.2.2 t)) ∧ ∃ q, w' = W.drewN q := by
  obtain ⟨_, _, c2⟩ := hb.cells
  have HX := hid hx
  have HT := hid ht
  clear hb hx ht
  go_enter Tryz.func56, Tryz.ntmps56
  go_wp2_with (go_at_call 57; refine (Token_any _ _ _ HX.out HT.out).mono ?_; rintro e w1 ⟨rfl, n, rfl⟩)
  go_ret
  exact ⟨rfl, n, rfl⟩

set_option maxHeartbeats 1000000 in
theorem h2_any (g : Nat) (x : Tm) (t : ByteArray) (W : World) (hb : BoxM W g x) :
    Calls Tryz.prog 58 #[.string t, .pointer (some ⟨g, 0, none⟩)] W fun e w' => e = .returned (.bool (beginsB t x.2.2)) ∧ ∃ q, w' = W.drewN q := by
  obtain ⟨_, _, c2⟩ := hb.cells
  have HE := hid (begins_prefix t x.2.2)
  clear hb
  go_enter Tryz.func58, Tryz.ntmps58
  go_wp2_with (go_at_call 59; refine (Tryz.strings_HasPrefix _ _ _).mono ?_; rintro e w1 ⟨rfl, rfl⟩)
  go_ret
  exact ⟨ret_bool HE.out, 0, rfl⟩

set_option maxHeartbeats 1000000 in
theorem h3_any (g : Nat) (x : Tm) (t : ByteArray) (W : World) (hb : BoxM W g x) :
    Calls Tryz.prog 60 #[.string t, .pointer (some ⟨g, 0, none⟩)] W fun e w' => e = .returned (.bool (ltB t x.2.2)) ∧ ∃ q, w' = W.drewN q := by
  obtain ⟨_, _, c2⟩ := hb.cells
  have HE := hid (sless_of (rfl : ltB t x.2.2 = _))
  clear hb
  go_enter Tryz.func60, Tryz.ntmps60
  go_wp2_with fail
  go_ret
  exact ⟨ret_bool HE.out, 0, rfl⟩

set_option maxHeartbeats 1000000 in
theorem h4_any (g : Nat) (x : Tm) (t : ByteArray) (W : World) (hb : BoxM W g x) :
    Calls Tryz.prog 61 #[.string t, .pointer (some ⟨g, 0, none⟩)] W fun e w' => e = .returned (.bool (ltB x.2.2 t)) ∧ ∃ q, w' = W.drewN q := by
  obtain ⟨_, _, c2⟩ := hb.cells
  have HE := hid (gtr_of t x.2.2)
  have HL := hid (sless_of (rfl : ltB t x.2.2 = _))
  clear hb
  go_enter Tryz.func61, Tryz.ntmps61
  go_wp2_with fail
  go_ret
  refine ⟨ret_bool ?_, 0, rfl⟩
  rw [← HE.out, HL.out]

set_option maxHeartbeats 1000000 in
theorem h5_any (t : ByteArray) (W : World) :
    Calls Tryz.prog 62 #[.string t] W fun e w' => e = .returned (.bool true) ∧ ∃ q, w' = W.drewN q := by
  go_enter Tryz.func62, Tryz.ntmps62
  go_wp2_with fail
  go_ret
  exact ⟨rfl, 0, rfl⟩

theorem any_true (ts : List ByteArray) : ts.any (fun _ => true) = decide (0 < ts.length) := by
  cases ts <;> simp

set_option maxHeartbeats 4000000 in
set_option maxRecDepth 100000 in
theorem pholds_any (x : Tm) (p : Option Addr) (cap : Nat) (ts : List ByteArray) (w : World) (h : TxtAt w p ts) (hf : FitT ts) (hx : x.2.2.size ≤ maxLen) :
    Calls Tryz.prog 38 #[.agg #[.string x.1, .int .i64 x.2.1, .string x.2.2], .slice p ts.length cap] w fun e w' => e = .returned (.bool (holdsT x ts)) ∧ Grown w w' := by
  obtain ⟨W, hW⟩ : ∃ W, w.alloc (.cells #[.string x.1, .int .i64 x.2.1, .string x.2.2] 39) = W := ⟨_, rfl⟩
  have hbw : Below w.heap.size w W := by rw [← hW]; exact (Below.refl _ _).alloc (Nat.le_refl _) _
  have HG : Hid (Grown w W) := by rw [← hW]; exact (Grown.refl _).alloc _
  have hbox : BoxM W w.heap.size x := by rw [← hW]; exact boxM_new w x
  have hmf : ∀ (fn : Fn) (first cap : Array Value) (w : World), (Instr.makeFunc fn first cap).run Tryz.prog w = .ok (.func fn first cap) w := fun _ _ _ _ => rfl
  have H1 := hid (hasT_any (tokenB x.2.2) 56 #[.pointer (some ⟨w.heap.size, 0, none⟩)] enters_h1 p cap ts W (h.kept hbw) hf (fun V t hb ht => h1_any w.heap.size x t V (hbox.on hb) hx ht))
  have H2 := hid (hasT_any (fun t => beginsB t x.2.2) 58 #[.pointer (some ⟨w.heap.size, 0, none⟩)] enters_h2 p cap ts W (h.kept hbw) hf (fun V t hb ht => h2_any w.heap.size x t V (hbox.on hb)))
  have H3 := hid (hasT_any (fun t => ltB t x.2.2) 60 #[.pointer (some ⟨w.heap.size, 0, none⟩)] enters_h3 p cap ts W (h.kept hbw) hf (fun V t hb ht => h3_any w.heap.size x t V (hbox.on hb)))
  have H4 := hid (hasT_any (fun t => ltB x.2.2 t) 61 #[.pointer (some ⟨w.heap.size, 0, none⟩)] enters_h4 p cap ts W (h.kept hbw) hf (fun V t hb ht => h4_any w.heap.size x t V (hbox.on hb)))
  have H5 := hid (hasT_any (fun _ => true) 62 #[] enters_h5 p cap ts W (h.kept hbw) hf (fun V t hb ht => h5_any t V))
  obtain ⟨c0, c1, c2⟩ := hbox.cells
  obtain ⟨r, hr⟩ : ∃ r, holdsT x ts = r := ⟨_, rfl⟩
  rw [hr]
  have HR := hid hr
  obtain ⟨xf, xo, xt⟩ := x
  simp only at hW c0 c1 c2 H1 H2 H3 H4
  unfold holdsT at HR
  simp only at HR
  rw [any_true] at H5
  obtain ⟨B1, hB1⟩ : ∃ B, ts.any (tokenB xt) = B := ⟨_, rfl⟩
  rw [hB1] at H1 HR
  obtain ⟨B2, hB2⟩ : ∃ B, ts.any (fun t => beginsB t xt) = B := ⟨_, rfl⟩
  rw [hB2] at H2 HR
  obtain ⟨B3, hB3⟩ : ∃ B, ts.any (fun t => ltB t xt) = B := ⟨_, rfl⟩
  rw [hB3] at H3 HR
  obtain ⟨B4, hB4⟩ : ∃ B, ts.any (fun t => ltB xt t) = B := ⟨_, rfl⟩
  rw [hB4] at H4 HR
  have e7 : decide (ts.length = 0) = !decide (0 < ts.length) := by cases ts <;> simp
  rw [e7] at HR
  obtain ⟨B5, hB5⟩ : ∃ B, decide (0 < ts.length) = B := ⟨_, rfl⟩
  rw [hB5] at H5 HR
  clear hr h hf hx hbox hbw hB1 hB2 hB3 hB4 hB5 e7
  by_cases hr7 : 1 ≤ xo ∧ xo ≤ 7
  · rcases (show xo = 1 ∨ xo = 2 ∨ xo = 3 ∨ xo = 4 ∨ xo = 5 ∨ xo = 6 ∨ xo = 7 by omega) with rfl | rfl | rfl | rfl | rfl | rfl | rfl
    · have HV : Hid (B1 = r) := by have := HR.out; show B1 = r; simpa using this
      go_enter Tryz.func38, Tryz.ntmps38
      go_wp2_with (go_at_call 63; refine H1.out.mono ?_; rintro e w1 ⟨rfl, n, rfl⟩)
      go_ret
      refine ⟨ret_bool ?_, HG.out.drewN n⟩
      rw [← HV.out]
    · have HV : Hid ((!B1) = r) := by have := HR.out; show (!B1) = r; simpa using this
      go_enter Tryz.func38, Tryz.ntmps38
      go_wp2_with (go_at_call 63; refine H1.out.mono ?_; rintro e w1 ⟨rfl, n, rfl⟩)
      go_ret
      refine ⟨ret_bool ?_, HG.out.drewN n⟩
      rw [← HV.out]
    · have HV : Hid (B2 = r) := by have := HR.out; show B2 = r; simpa using this
      go_enter Tryz.func38, Tryz.ntmps38
      go_wp2_with (go_at_call 63; refine H2.out.mono ?_; rintro e w1 ⟨rfl, n, rfl⟩)
      go_ret
      refine ⟨ret_bool ?_, HG.out.drewN n⟩
      rw [← HV.out]
    · have HV : Hid (B3 = r) := by have := HR.out; show B3 = r; simpa using this
      go_enter Tryz.func38, Tryz.ntmps38
      go_wp2_with (go_at_call 63; refine H3.out.mono ?_; rintro e w1 ⟨rfl, n, rfl⟩)
      go_ret
      refine ⟨ret_bool ?_, HG.out.drewN n⟩
      rw [← HV.out]
    · have HV : Hid (B4 = r) := by have := HR.out; show B4 = r; simpa using this
      go_enter Tryz.func38, Tryz.ntmps38
      go_wp2_with (go_at_call 63; refine H4.out.mono ?_; rintro e w1 ⟨rfl, n, rfl⟩)
      go_ret
      refine ⟨ret_bool ?_, HG.out.drewN n⟩
      rw [← HV.out]
    · have HV : Hid (B5 = r) := by have := HR.out; show B5 = r; simpa using this
      go_enter Tryz.func38, Tryz.ntmps38
      go_wp2_with (go_at_call 63; refine H5.out.mono ?_; rintro e w1 ⟨rfl, n, rfl⟩)
      go_ret
      refine ⟨ret_bool ?_, HG.out.drewN n⟩
      rw [← HV.out]
    · have HV : Hid ((!B5) = r) := by have := HR.out; show (!B5) = r; simpa using this
      go_enter Tryz.func38, Tryz.ntmps38
      go_wp2_with (go_at_call 63; refine H5.out.mono ?_; rintro e w1 ⟨rfl, n, rfl⟩)
      go_ret
      refine ⟨ret_bool ?_, HG.out.drewN n⟩
      rw [← HV.out]
  · have HV : Hid (false = r) := by
      have := HR.out
      rw [if_neg (by omega), if_neg (by omega), if_neg (by omega), if_neg (by omega), if_neg (by omega), if_neg (by omega), if_neg (by omega)] at this
      exact this
    have n1 : (xo == 1) = false := by simp; omega
    have n2 : (xo == 2) = false := by simp; omega
    have n3 : (xo == 3) = false := by simp; omega
    have n4 : (xo == 4) = false := by simp; omega
    have n5 : (xo == 5) = false := by simp; omega
    have n6 : (xo == 6) = false := by simp; omega
    have n7 : (xo == 7) = false := by simp; omega
    clear hr7
    go_enter Tryz.func38, Tryz.ntmps38
    go_wp2_with fail
    go_ret
    exact ⟨ret_bool HV.out, HG.out⟩

set_option maxHeartbeats 8000000 in
set_option maxRecDepth 100000 in
theorem pmatch_any (u v : Value) (p : List Tm) (d : List Fx) (w : World) (hu : KM.Is w u p) (hp : FitM p) (hv : IsXs w v d) (hf : FitX d) (h16 : ∀ x ∈ d, x.txt.length * 16 ≤ 140737488355328) :
    Calls Tryz.prog 18 #[u, v] w fun e w' => e = .returned (.bool (matchM p (d.map Fx.fld))) ∧ Below w.heap.size w w' := by
  obtain ⟨q, cap, rfl, hd⟩ := hu
  have hl := hp.1
  unfold maxLen at hl
  have HD := hid hd
  have HV := hid hv
  have HF := hid hf
  have HP := hid hp
  have H16 := hid h16
  obtain ⟨r, hr⟩ : ∃ r, matchM p (d.map Fx.fld) = r := ⟨_, rfl⟩
  rw [hr]
  have HR := hid hr
  clear hd hv hf hp h16 hr
  go_enter Tryz.func18, Tryz.ntmps18
  go_wp2_with fail
  go_loopg [9] p.length (fun g vi wr => ∃ i : Nat, vi = .int .i64 i ∧ i ≤ p.length ∧ p.length - i ≤ g ∧ Below w.heap.size w wr ∧ Hid (∀ j (h : j < p.length), j < i → holdsM p[j] (d.map Fx.fld) = true))
  case atStart => exact ⟨0, rfl, by omega, by omega, Below.refl _ _, fun j _ h => by omega⟩
  case round =>
    obtain ⟨i, rfl, hi, hg, hb, HJ⟩ := hrel
    by_cases hlt : i < p.length
    · have hltz : (i : Int) < (p.length : Int) := by omega
      have hiz : (0 : Int) ≤ i := by omega
      obtain ⟨b, off, rfl, hat⟩ : ∃ b off, q = some ⟨b, off, none⟩ ∧ KM.At w b off p := by
        rcases HD.out with h | h
        · rw [h] at hlt; simp at hlt
        · exact h
      obtain ⟨c0, c1, c2⟩ := km_cells (Kind.at_kept hat hb) i hlt
      have hfx := HP.out.2 _ (List.getElem_mem hlt)
      have hno : holdsM p[i] (d.map Fx.fld) = false → r = false := fun h => by
        rw [← HR.out]
        unfold matchM
        rw [List.all_eq_false]
        exact ⟨_, List.getElem_mem hlt, by rw [h]; simp⟩
      have hyes : holdsM p[i] (d.map Fx.fld) = true → ∀ j (h : j < p.length), j < i + 1 → holdsM p[j] (d.map Fx.fld) = true := fun e j h hj => by
        by_cases ej : j = i
        · subst ej; exact e
        · exact HJ.out j h (by omega)
      obtain ⟨x, hx⟩ : ∃ x, p[i] = x := ⟨_, rfl⟩
      rw [hx] at c0 c1 c2 hfx hno hyes
      have HNO := hid hno
      have HYES := hid hyes
      have HB := hid hb
      have hsz := hb.size
      obtain ⟨xf, xo, xt⟩ := x
      simp only at c0 c1 c2 hfx
      clear hat hx hno hyes hb
      go_wp2_with fail
      obtain ⟨F, hF⟩ : ∃ F, wr.heap.size = F := ⟨_, rfl⟩
      obtain ⟨W, hW⟩ : ∃ W, wr.alloc (.cells #[.string xf, .int .i64 xo, .string xt] 39) = W := ⟨_, rfl⟩
      have hbox : BoxM W F (xf, xo, xt) := by rw [← hW, ← hF]; exact boxM_new wr (xf, xo, xt)
      have hbW : Below w.heap.size w W := by rw [← hW]; exact HB.out.alloc hsz _
      have HBW := hid hbW
      have HT := hid (texts_any v xf d W.drew (HV.out.kept hbW.drew) HF.out H16.out)
      have hFl : F < W.heap.size := hbox.lt
      have q0 : W.drew.cell? ⟨F, 0, none⟩ = some (.string xf) ∧ W.drew.cell? ⟨F, 1, none⟩ = some (.int .i64 xo) ∧ W.drew.cell? ⟨F, 2, none⟩ = some (.string xt) := hbox.cells
      have KS : Hid (∀ w' : World, Below W.drew.heap.size W.drew w' → w'.cell? ⟨F, 0, none⟩ = some (.string xf) ∧ w'.cell? ⟨F, 1, none⟩ = some (.int .i64 xo) ∧ w'.cell? ⟨F, 2, none⟩ = some (.string xt)) := fun w' h => (BoxM.on (w := W.drew) hbox h).cells
      have HTF : Hid (FitT (textsOf (d.map Fx.fld) xf)) := by
        show FitT _
        unfold textsOf
        cases hfd : (d.map Fx.fld).find? (fun f => decide (f.1 = xf)) with
        | none => exact ⟨Nat.zero_le _, fun t ht => by simp at ht⟩
        | some f =>
          obtain ⟨y, hy, rfl⟩ := List.mem_map.1 (List.mem_of_find?_eq_some hfd)
          exact (HF.out.2 y hy).2
      obtain ⟨ts, hts⟩ : ∃ ts, textsOf (d.map Fx.fld) xf = ts := ⟨_, rfl⟩
      rw [hts] at HT HTF
      have HXT : Hid (holdsM (xf, xo, xt) (d.map Fx.fld) = holdsT (xf, xo, xt) ts) := by show _ = _; unfold holdsM; rw [hts]
      clear hts hbox hbW
      rw [hF, hW]
      clear hF hW
      cases hB : holdsT (xf, xo, xt) ts with
      | true =>
        have HX : Hid (holdsM (xf, xo, xt) (d.map Fx.fld) = true) := by show _ = _; rw [HXT.out, hB]
        have HHD : Hid (∀ (W5 : World) p5 c5, TxtAt W5 p5 ts → Calls Tryz.prog 38 #[.agg #[.string xf, .int .i64 xo, .string xt], .slice p5 ts.length c5] W5 fun e w' => e = .returned (.bool true) ∧ Grown W5 w') := fun W5 p5 c5 h => by
          have := pholds_any (xf, xo, xt) p5 c5 ts W5 h HTF.out hfx.2.1
          rwa [hB] at this
        clear hB
        go_region_held3 (fun w' => w'.cell? ⟨F, 0, none⟩ = some (.string xf) ∧ w'.cell? ⟨F, 1, none⟩ = some (.int .i64 xo) ∧ w'.cell? ⟨F, 2, none⟩ = some (.string xt))
          (first | exact q0 | exact q5 | exact q6)
          (first
            | (go_at_call 39; refine HT.out.mono ?_; rintro e w5 ⟨⟨sv, rfl, hot5⟩, hb5⟩; obtain ⟨pc, capc, rfl⟩ := own_slice hot5; have q5 := KS.out w5 hb5; have htx5 := OwnT.txtAt hot5)
            | (go_at_call 38; refine (HHD.out _ _ _ htx5).mono ?_; rintro e w6 ⟨rfl, hg6⟩; have q6 := KS.out w6 (hb5.trans (hg6.below.mono hb5.size))))
        have hb6 : Below w.heap.size w w6 := (HBW.out.drew.trans (hb5.mono (by simpa using HBW.out.size))).trans (hg6.below.mono (Nat.le_trans (by simpa using HBW.out.size) hb5.size))
        have HB6 := hid hb6
        clear hb6 hg6 hb5 hot5 htx5 q5 q6 q0
        go_wp2_with fail
        go_roundg (p.length - (i + 1))
        case measure => omega
        exact ⟨i + 1, by go_num, by omega, by omega, HB6.out, HYES.out HX.out⟩
      | false =>
        have HX : Hid (holdsM (xf, xo, xt) (d.map Fx.fld) = false) := by show _ = _; rw [HXT.out, hB]
        have HHD : Hid (∀ (W5 : World) p5 c5, TxtAt W5 p5 ts → Calls Tryz.prog 38 #[.agg #[.string xf, .int .i64 xo, .string xt], .slice p5 ts.length c5] W5 fun e w' => e = .returned (.bool false) ∧ Grown W5 w') := fun W5 p5 c5 h => by
          have := pholds_any (xf, xo, xt) p5 c5 ts W5 h HTF.out hfx.2.1
          rwa [hB] at this
        clear hB
        go_region_held3 (fun w' => w'.cell? ⟨F, 0, none⟩ = some (.string xf) ∧ w'.cell? ⟨F, 1, none⟩ = some (.int .i64 xo) ∧ w'.cell? ⟨F, 2, none⟩ = some (.string xt))
          (first | exact q0 | exact q5 | exact q6)
          (first
            | (go_at_call 39; refine HT.out.mono ?_; rintro e w5 ⟨⟨sv, rfl, hot5⟩, hb5⟩; obtain ⟨pc, capc, rfl⟩ := own_slice hot5; have q5 := KS.out w5 hb5; have htx5 := OwnT.txtAt hot5)
            | (go_at_call 38; refine (HHD.out _ _ _ htx5).mono ?_; rintro e w6 ⟨rfl, hg6⟩; have q6 := KS.out w6 (hb5.trans (hg6.below.mono hb5.size))))
        have hb6 : Below w.heap.size w w6 := (HBW.out.drew.trans (hb5.mono (by simpa using HBW.out.size))).trans (hg6.below.mono (Nat.le_trans (by simpa using HBW.out.size) hb5.size))
        have HB6 := hid hb6
        clear hb6 hg6 hb5 hot5 htx5 q5 q6 q0
        go_wp2_with fail
        go_ret
        exact ⟨ret_bool (HNO.out HX.out).symm, HB6.out⟩
    · have hltz : ¬ (i : Int) < (p.length : Int) := by omega
      have H0 : Hid (r = true) := by
        show _ = _
        rw [← HR.out]
        unfold matchM
        rw [List.all_eq_true]
        intro x hx
        obtain ⟨j, hj, rfl⟩ := List.mem_iff_getElem.1 hx
        exact HJ.out j hj (by omega)
      go_wp2_with fail
      go_ret
      exact ⟨ret_bool H0.out.symm, hb⟩

end Go.Proofs.YtfcjnoojcajljaaGreatDoor

/-
  The signs of the operators; the contract of the reference's op.
-/
namespace Go.Proofs.YtfcjnoojcajljaaGreatDoor
open Go.RowKit

/-- The operator of a sign, or 0. -/
def opN (c : Int) : Int := if 61 = c then 1 else if 33 = c then 2 else if 94 = c then 3 else if 60 = c then 4 else if 62 = c then 5 else if 63 = c then 6 else if 45 = c then 7 else 0
/-- The sign of an operator. -/
def opC (o : Int) : UInt8 := if o = 1 then 61 else if o = 2 then 33 else if o = 3 then 94 else if o = 4 then 60 else if o = 5 then 62 else if o = 6 then 63 else 45

theorem opN_range (c : Int) : 0 ≤ opN c ∧ opN c ≤ 7 := by
  unfold opN
  repeat' split
  all_goals omega

theorem opN_opC {o : Int} (h1 : 1 ≤ o) (h2 : o ≤ 7) : opN ((opC o).toNat : Int) = o := by
  have : o = 1 ∨ o = 2 ∨ o = 3 ∨ o = 4 ∨ o = 5 ∨ o = 6 ∨ o = 7 := by omega
  rcases this with rfl | rfl | rfl | rfl | rfl | rfl | rfl <;> decide

set_option maxHeartbeats 4000000 in
set_option maxRecDepth 100000 in
theorem rop_any (n : Int) (w : World) : Calls Tryz.prog 78 #[.int .u8 n] w fun e w' => e = .returned (.int .i64 (opN n)) ∧ w' = w := by
  by_cases h : ∃ k : Nat, k < 7 ∧ ([61, 33, 94, 60, 62, 63, 45] : List Int)[k]? = some n
  · obtain ⟨k, hk, hn⟩ := h
    have : k = 0 ∨ k = 1 ∨ k = 2 ∨ k = 3 ∨ k = 4 ∨ k = 5 ∨ k = 6 := by omega
    rcases this with rfl | rfl | rfl | rfl | rfl | rfl | rfl
    all_goals
      simp only [List.getElem?_cons_zero, List.getElem?_cons_succ, Option.some.injEq] at hn
      subst hn
      go_enter Tryz.func78, Tryz.ntmps78
      go_wp2
      refine wp_loop_rounds 8 ?_
      repeat (rw [rounds_succ]; go_wp2)
      go_ret
      exact ⟨rfl, rfl⟩
  · have hne : ∀ k : Nat, k < 7 → ∀ c : Int, ([61, 33, 94, 60, 62, 63, 45] : List Int)[k]? = some c → (c == n) = false := fun k hk c hc => by
      rw [beq_eq_false_iff_ne]
      intro e
      subst e
      exact h ⟨k, hk, hc⟩
    have g0 := hne 0 (by decide) 61 rfl; have g1 := hne 1 (by decide) 33 rfl; have g2 := hne 2 (by decide) 94 rfl; have g3 := hne 3 (by decide) 60 rfl
    have g4 := hne 4 (by decide) 62 rfl; have g5 := hne 5 (by decide) 63 rfl; have g6 := hne 6 (by decide) 45 rfl
    have HR : Hid (opN n = 0) := by
      show _ = _
      rw [beq_eq_false_iff_ne] at g0 g1 g2 g3 g4 g5 g6
      unfold opN
      rw [if_neg g0, if_neg g1, if_neg g2, if_neg g3, if_neg g4, if_neg g5, if_neg g6]
    clear hne h
    have z0 : ((⟨#[61, 33, 94, 60, 62, 63, 45]⟩ : ByteArray)[0]'(by decide)).toNat = 61 := rfl
    have z1 : ((⟨#[61, 33, 94, 60, 62, 63, 45]⟩ : ByteArray)[1]'(by decide)).toNat = 33 := rfl
    have z2 : ((⟨#[61, 33, 94, 60, 62, 63, 45]⟩ : ByteArray)[2]'(by decide)).toNat = 94 := rfl
    have z3 : ((⟨#[61, 33, 94, 60, 62, 63, 45]⟩ : ByteArray)[3]'(by decide)).toNat = 60 := rfl
    have z4 : ((⟨#[61, 33, 94, 60, 62, 63, 45]⟩ : ByteArray)[4]'(by decide)).toNat = 62 := rfl
    have z5 : ((⟨#[61, 33, 94, 60, 62, 63, 45]⟩ : ByteArray)[5]'(by decide)).toNat = 63 := rfl
    have z6 : ((⟨#[61, 33, 94, 60, 62, 63, 45]⟩ : ByteArray)[6]'(by decide)).toNat = 45 := rfl
    go_enter Tryz.func78, Tryz.ntmps78
    go_wp2
    refine wp_loop_rounds 8 ?_
    repeat (rw [rounds_succ]; go_wp2)
    all_goals go_ret
    all_goals exact ⟨by rw [HR.out]; rfl, rfl⟩

end Go.Proofs.YtfcjnoojcajljaaGreatDoor

/-
  The contract of isPlain: the table of plain bytes, read from the variable that the row lists.
-/
namespace Go.Proofs.YtfcjnoojcajljaaGreatDoor
open Go.RowKit

/-- The table's runs. -/
def plainRuns : List (Int × Int) := [(97, 122), (65, 90), (48, 57), (45, 45), (46, 46), (95, 95), (124, 124), (42, 42), (64, 64), (47, 47), (58, 58), (43, 43), (44, 44)]
def plainLo (i : Nat) : Int := (plainRuns.getD i (0, 0)).1
def plainHi (i : Nat) : Int := (plainRuns.getD i (0, 0)).2
def plainCells : Array Value := #[.int .u8 97, .int .u8 122, .int .u8 65, .int .u8 90, .int .u8 48, .int .u8 57, .int .u8 45, .int .u8 45, .int .u8 46, .int .u8 46, .int .u8 95, .int .u8 95, .int .u8 124, .int .u8 124,
  .int .u8 42, .int .u8 42, .int .u8 64, .int .u8 64, .int .u8 47, .int .u8 47, .int .u8 58, .int .u8 58, .int .u8 43, .int .u8 43, .int .u8 44, .int .u8 44]
def plainB (n : Int) : Bool := plainRuns.any fun r => decide (r.1 ≤ n) && decide (n ≤ r.2)

/-- The variable holds the table. -/
def PlainAt (w : World) : Prop := ∃ t fr, w.heap[1]? = some (.cells plainCells t fr)

theorem PlainAt.lt {w : World} (h : PlainAt w) : 1 < w.heap.size := by
  obtain ⟨t, fr, h⟩ := h
  exact (Array.getElem?_eq_some_iff.1 h).1

theorem PlainAt.kept {w w' : World} {n : Nat} (h : PlainAt w) (hn : 1 < n) (hb : Below n w w') : PlainAt w' := by
  obtain ⟨t, fr, h⟩ := h
  exact ⟨t, fr, (hb.block _ hn).trans h⟩

theorem PlainAt.on {w w' : World} (h : PlainAt w) (hb : Below w.heap.size w w') : PlainAt w' := h.kept h.lt hb

theorem plain_index (i : Nat) (hi : i < 13) (w : World) : Sem.run Tryz.prog (Instr.index 131 (.agg plainCells) (.int .i64 i)) w = .ok (.agg #[.int .u8 (plainLo i), .int .u8 (plainHi i)]) w := by
  have h : i = 0 ∨ i = 1 ∨ i = 2 ∨ i = 3 ∨ i = 4 ∨ i = 5 ∨ i = 6 ∨ i = 7 ∨ i = 8 ∨ i = 9 ∨ i = 10 ∨ i = 11 ∨ i = 12 := by omega
  have z : (Go.sizeOf 130).run Tryz.prog w = .ok 2 w := Tryz.sizeOf130 w
  rcases h with rfl | rfl | rfl | rfl | rfl | rfl | rfl | rfl | rfl | rfl | rfl | rfl | rfl <;>
    simp [Instr.index, run_underlying Tryz.underlying131, asIntOf, part, z, plainCells, plainLo, plainHi, plainRuns, go_sem]

theorem plain_at (n : Int) (i : Nat) (hi : i < 13) (h1 : plainLo i ≤ n) (h2 : n ≤ plainHi i) : plainB n = true := by
  unfold plainB
  rw [List.any_eq_true]
  refine ⟨plainRuns.getD i (0, 0), ?_, ?_⟩
  · rw [List.getD_eq_getElem?_getD, List.getElem?_eq_getElem (show i < plainRuns.length from hi)]
    exact List.getElem_mem _
  · unfold plainLo at h1
    unfold plainHi at h2
    rw [Bool.and_eq_true, decide_eq_true_eq, decide_eq_true_eq]
    exact ⟨h1, h2⟩

theorem plain_no (n : Int) (h : ∀ i, i < 13 → ¬ (plainLo i ≤ n ∧ n ≤ plainHi i)) : plainB n = false := by
  rw [Bool.eq_false_iff]
  intro ht
  unfold plainB at ht
  rw [List.any_eq_true] at ht
  obtain ⟨r, hr, h1⟩ := ht
  obtain ⟨i, hi, rfl⟩ := List.mem_iff_getElem.1 hr
  refine h i hi ?_
  unfold plainLo plainHi
  rw [List.getD_eq_getElem?_getD, List.getElem?_eq_getElem hi]
  simpa using h1

set_option maxHeartbeats 4000000 in
set_option maxRecDepth 100000 in
theorem isPlain_any (n : Int) (w : World) (hp : PlainAt w) : Calls Tryz.prog 100 #[.int .u8 n] w fun e w' => e = .returned (.bool (plainB n)) ∧ Below w.heap.size w w' := by
  obtain ⟨t, fr, hrow⟩ := hp
  have hin : (Tryz.prog.info? 131).map (·.size) = some plainCells.size := by kernel_rfl
  have HX : Hid (∀ i : Nat, i < 13 → ∀ w, Sem.run Tryz.prog (Instr.index 131 (.agg plainCells) (.int .i64 i)) w = .ok (.agg #[.int .u8 (plainLo i), .int .u8 (plainHi i)]) w) := plain_index
  generalize plainCells = tb at hrow hin HX
  have HR := hid hrow
  have HI := hid hin
  clear hrow hin
  go_enter Tryz.func100, Tryz.ntmps100
  go_wp2_with (refine wpList_load_row rfl 131 _ rfl 1 rfl _ _ _ _ HR.out Tryz.underlying131 rfl HI.out ?_)
  go_loopg [6] 13 (fun g vi wr => ∃ i : Nat, vi = .int .i64 i ∧ i ≤ 13 ∧ 13 - i ≤ g ∧ Below w.heap.size w wr ∧ Hid (∀ j, j < i → ¬ (plainLo j ≤ n ∧ n ≤ plainHi j)))
  case atStart => exact ⟨0, rfl, by omega, by omega, Below.refl _ _, fun j h => by omega⟩
  case round =>
    obtain ⟨i, rfl, hi, hg, hb, HJ⟩ := hrel
    by_cases hlt : i < 13
    · have hltz : (i : Int) < 13 := by omega
      have hx := HX.out i hlt
      go_wp2_with fail
      · go_ret
        exact ⟨ret_bool (plain_at n i hlt (by assumption) (by assumption)).symm, hb.alloc hb.size _⟩
      · go_roundg (13 - (i + 1))
        case measure => omega
        refine ⟨i + 1, by go_num, by omega, by omega, hb.alloc hb.size _, ?_⟩
        rename_i h1 h2
        intro j hj
        by_cases e : j = i
        · subst e; omega
        · exact HJ.out j (by omega)
      · go_roundg (13 - (i + 1))
        case measure => omega
        refine ⟨i + 1, by go_num, by omega, by omega, hb.alloc hb.size _, ?_⟩
        rename_i h1
        intro j hj
        by_cases e : j = i
        · subst e; omega
        · exact HJ.out j (by omega)
    · have hltz : ¬ (i : Int) < 13 := by omega
      go_wp2_with fail
      go_ret
      exact ⟨ret_bool (plain_no n fun j hj => HJ.out j (by omega)).symm, hb⟩

end Go.Proofs.YtfcjnoojcajljaaGreatDoor

/-
  The plain mathematics of written texts.
-/
namespace Go.Proofs.YtfcjnoojcajljaaGreatDoor
open Go.RowKit

def digitsA : ByteArray := ⟨#[48, 49, 50, 51, 52, 53, 54, 55, 56, 57, 97, 98, 99, 100, 101, 102]⟩
def hexd (n : Nat) : UInt8 := if n < 10 then UInt8.ofNat (48 + n) else UInt8.ofNat (87 + n)
def writeC (c : UInt8) : List UInt8 := if plainB (c.toNat : Int) then [c] else [37, hexd (c.toNat / 16), hexd (c.toNat % 16)]
def writeL (l : List UInt8) : List UInt8 := l.flatMap writeC

theorem digit_at (k : Nat) (h : k < 16) : (⟨#[48, 49, 50, 51, 52, 53, 54, 55, 56, 57, 97, 98, 99, 100, 101, 102]⟩ : ByteArray)[k]'h = hexd k := by
  have : k = 0 ∨ k = 1 ∨ k = 2 ∨ k = 3 ∨ k = 4 ∨ k = 5 ∨ k = 6 ∨ k = 7 ∨ k = 8 ∨ k = 9 ∨ k = 10 ∨ k = 11 ∨ k = 12 ∨ k = 13 ∨ k = 14 ∨ k = 15 := by omega
  rcases this with rfl | rfl | rfl | rfl | rfl | rfl | rfl | rfl | rfl | rfl | rfl | rfl | rfl | rfl | rfl | rfl <;> rfl

theorem writeL_cons (c : UInt8) (l : List UInt8) : writeL (c :: l) = writeC c ++ writeL l := rfl
theorem writeL_append (l m : List UInt8) : writeL (l ++ m) = writeL l ++ writeL m := by simp [writeL]
theorem writeC_len (c : UInt8) : (writeC c).length ≤ 3 := by unfold writeC; split <;> simp
theorem writeL_len (l : List UInt8) : (writeL l).length ≤ 3 * l.length := by
  induction l with
  | nil => simp [writeL]
  | cons c l ih => rw [writeL_cons, List.length_append, List.length_cons]; have := writeC_len c; omega

theorem take_succ_byte (s : ByteArray) (i : Nat) (h : i < s.size) : s.data.toList.take (i + 1) = s.data.toList.take i ++ [s[i]] := by
  rw [List.take_succ_eq_append_getElem (by simpa using h)]
  rfl

theorem write_step (s : ByteArray) (i : Nat) (h : i < s.size) : writeL (s.data.toList.take (i + 1)) = writeL (s.data.toList.take i) ++ writeC s[i] := by
  rw [take_succ_byte s i h, writeL_append]
  simp [writeL]

end Go.Proofs.YtfcjnoojcajljaaGreatDoor

/-
  The contract of first: the byte that stands first in a written text.
-/
namespace Go.Proofs.YtfcjnoojcajljaaGreatDoor
open Go.RowKit

def hexv (c : UInt8) : Int := Lib.indexByte digitsA.data.toList c

def firstP : List UInt8 → Option (UInt8 × Nat)
  | [] => none
  | c :: r => if plainB (c.toNat : Int) then some (c, 1) else if c ≠ 37 then none else
    match r with
    | a :: b :: _ => if hexv a < 0 ∨ hexv b < 0 then none else
      if plainB ((UInt8.ofNat (16 * (hexv a).toNat + (hexv b).toNat)).toNat : Int) then none else some (UInt8.ofNat (16 * (hexv a).toNat + (hexv b).toNat), 3)
    | _ => none

def firstV (o : Option (UInt8 × Nat)) : Value := match o with
  | some (c, n) => .tuple #[.int .u8 c.toNat, .int .i64 n]
  | none => .tuple #[.int .u8 0, .int .i64 0]

theorem hexv_cases (c : UInt8) : hexv c = -1 ∨ ∃ k : Nat, k < 16 ∧ hexv c = k ∧ c = hexd k := by
  by_cases h : ∃ k, k < 16 ∧ c = hexd k
  · obtain ⟨k, hk, rfl⟩ := h
    refine Or.inr ⟨k, hk, ?_, rfl⟩
    have : k = 0 ∨ k = 1 ∨ k = 2 ∨ k = 3 ∨ k = 4 ∨ k = 5 ∨ k = 6 ∨ k = 7 ∨ k = 8 ∨ k = 9 ∨ k = 10 ∨ k = 11 ∨ k = 12 ∨ k = 13 ∨ k = 14 ∨ k = 15 := by omega
    rcases this with rfl | rfl | rfl | rfl | rfl | rfl | rfl | rfl | rfl | rfl | rfl | rfl | rfl | rfl | rfl | rfl <;> decide
  · left
    have hn : ∀ k, k < 16 → hexd k ≠ c := fun k hk e => h ⟨k, hk, e.symm⟩
    have h0 := hn 0 (by decide); have h1 := hn 1 (by decide); have h2 := hn 2 (by decide); have h3 := hn 3 (by decide); have h4 := hn 4 (by decide); have h5 := hn 5 (by decide); have h6 := hn 6 (by decide); have h7 := hn 7 (by decide)
    have h8 := hn 8 (by decide); have h9 := hn 9 (by decide); have h10 := hn 10 (by decide); have h11 := hn 11 (by decide); have h12 := hn 12 (by decide); have h13 := hn 13 (by decide); have h14 := hn 14 (by decide); have h15 := hn 15 (by decide)
    unfold hexv
    show Lib.indexByte [48, 49, 50, 51, 52, 53, 54, 55, 56, 57, 97, 98, 99, 100, 101, 102] c = -1
    have g0 : ((48 : UInt8) == c) = false := beq_eq_false_iff_ne.2 h0
    have g1 : ((49 : UInt8) == c) = false := beq_eq_false_iff_ne.2 h1
    have g2 : ((50 : UInt8) == c) = false := beq_eq_false_iff_ne.2 h2
    have g3 : ((51 : UInt8) == c) = false := beq_eq_false_iff_ne.2 h3
    have g4 : ((52 : UInt8) == c) = false := beq_eq_false_iff_ne.2 h4
    have g5 : ((53 : UInt8) == c) = false := beq_eq_false_iff_ne.2 h5
    have g6 : ((54 : UInt8) == c) = false := beq_eq_false_iff_ne.2 h6
    have g7 : ((55 : UInt8) == c) = false := beq_eq_false_iff_ne.2 h7
    have g8 : ((56 : UInt8) == c) = false := beq_eq_false_iff_ne.2 h8
    have g9 : ((57 : UInt8) == c) = false := beq_eq_false_iff_ne.2 h9
    have g10 : ((97 : UInt8) == c) = false := beq_eq_false_iff_ne.2 h10
    have g11 : ((98 : UInt8) == c) = false := beq_eq_false_iff_ne.2 h11
    have g12 : ((99 : UInt8) == c) = false := beq_eq_false_iff_ne.2 h12
    have g13 : ((100 : UInt8) == c) = false := beq_eq_false_iff_ne.2 h13
    have g14 : ((101 : UInt8) == c) = false := beq_eq_false_iff_ne.2 h14
    have g15 : ((102 : UInt8) == c) = false := beq_eq_false_iff_ne.2 h15
    simp [Lib.indexByte, g0, g1, g2, g3, g4, g5, g6, g7, g8, g9, g10, g11, g12, g13, g14, g15]

set_option maxHeartbeats 2000000 in
theorem first_plain (s : ByteArray) (w : World) (hp : PlainAt w) (h0 : 0 < s.size) (hpl : plainB (s[0].toNat : Int) = true) :
    Calls Tryz.prog 112 #[.string s] w fun e w' => e = .returned (.tuple #[.int .u8 s[0].toNat, .int .i64 1]) ∧ Below w.heap.size w w' := by
  have HP := hid hp
  clear hp
  go_enter Tryz.func112, Tryz.ntmps112
  go_wp2_with (first | (go_at_call 100; refine (isPlain_any _ _ HP.out).mono ?_; rintro e w1 ⟨rfl, hb1⟩))
  go_ret2
  exact ⟨rfl, hb1⟩

set_option maxHeartbeats 2000000 in
theorem first_other (s : ByteArray) (w : World) (hp : PlainAt w) (h0 : 0 < s.size) (hpl : plainB (s[0].toNat : Int) = false) (hn : (s[0].toNat : Int) ≠ 37 ∨ s.size < 3) :
    Calls Tryz.prog 112 #[.string s] w fun e w' => e = .returned (.tuple #[.int .u8 0, .int .i64 0]) ∧ Below w.heap.size w w' := by
  have HP := hid hp
  clear hp
  by_cases hc : (s[0].toNat : Int) = 37
  · have h3 : (s.size : Int) < 3 := by omega
    go_enter Tryz.func112, Tryz.ntmps112
    go_wp2_with (first | (go_at_call 100; refine (isPlain_any _ _ HP.out).mono ?_; rintro e w1 ⟨rfl, hb1⟩))
    go_ret2
    exact ⟨rfl, hb1⟩
  · go_enter Tryz.func112, Tryz.ntmps112
    go_wp2_with (first | (go_at_call 100; refine (isPlain_any _ _ HP.out).mono ?_; rintro e w1 ⟨rfl, hb1⟩))
    go_ret2
    exact ⟨rfl, hb1⟩

theorem ixd_any (c : UInt8) (w : World) : Calls Tryz.prog 76 #[.string ⟨#[48, 49, 50, 51, 52, 53, 54, 55, 56, 57, 97, 98, 99, 100, 101, 102]⟩, .int .u8 c.toNat] w fun e w' => e = .returned (.int .i64 (hexv c)) ∧ w' = w := by
  refine (Tryz.strings_IndexByte _ _ w).mono ?_
  rintro e w' ⟨rfl, rfl⟩
  refine ⟨ret_int ?_, rfl⟩
  unfold hexv digitsA
  simp

set_option maxHeartbeats 2000000 in
theorem first_bad (s : ByteArray) (w : World) (hp : PlainAt w) (h0 : 2 < s.size) (hpl : plainB (s[0].toNat : Int) = false) (hn : (s[0].toNat : Int) = 37) (hab : hexv s[1] < 0 ∨ hexv s[2] < 0) :
    Calls Tryz.prog 112 #[.string s] w fun e w' => e = .returned (.tuple #[.int .u8 0, .int .i64 0]) ∧ Below w.heap.size w w' := by
  have HP := hid hp
  obtain ⟨a, ha⟩ : ∃ a, hexv s[1] = a := ⟨_, rfl⟩
  obtain ⟨b, hb⟩ : ∃ b, hexv s[2] = b := ⟨_, rfl⟩
  rw [ha, hb] at hab
  have h14 := hid (And.intro hpl hn)
  have HA := hid ha
  have HB := hid hb
  clear hp ha hb
  have h3 : ¬ (s.size : Int) < 3 := by omega
  have h11 : 1 < s.size := by omega
  have h12 : (1 : Int) < s.size := by omega
  have h13 : (2 : Int) < s.size := by omega
  by_cases h1 : a < 0
  · clear hab
    go_enter Tryz.func112, Tryz.ntmps112
    go_wp2_with (first | (go_at_call 100; refine (isPlain_any _ _ HP.out).mono ?_; rintro e w1 ⟨rfl, hb1⟩))
    go_quiet (first | (go_at_call 76; refine Calls.quiet_of_same (ixd_any _ _)))
    rw [HA.out, HB.out]
    go_wp2_with fail
    go_ret2
    exact ⟨rfl, bel_drewN hb1 _⟩
  · have h2 : b < 0 := by omega
    clear hab
    go_enter Tryz.func112, Tryz.ntmps112
    go_wp2_with (first | (go_at_call 100; refine (isPlain_any _ _ HP.out).mono ?_; rintro e w1 ⟨rfl, hb1⟩))
    go_quiet (first | (go_at_call 76; refine Calls.quiet_of_same (ixd_any _ _)))
    rw [HA.out, HB.out]
    go_wp2_with fail
    go_ret2
    exact ⟨rfl, bel_drewN hb1 _⟩

theorem or_nibble (a b : Nat) (ha : a < 16) (hb : b < 16) : bits BinOp.or IntKind.i64 ((a : Int) * 16) b % 256 = ((16 * a + b : Nat) : Int) := by
  have h : ∀ a b : Fin 16, bits BinOp.or IntKind.i64 ((a.val : Int) * 16) b.val % 256 = ((16 * a.val + b.val : Nat) : Int) := by decide +kernel
  exact h ⟨a, ha⟩ ⟨b, hb⟩

set_option maxHeartbeats 2000000 in
theorem first_hexp (s : ByteArray) (w : World) (hp : PlainAt w) (h0 : 2 < s.size) (hpl : plainB (s[0].toNat : Int) = false) (hn : (s[0].toNat : Int) = 37) (a b k : Nat) (ha : hexv s[1] = a) (hb : hexv s[2] = b) (ha16 : a < 16) (hb16 : b < 16) (hk : k = 16 * a + b) (hq : plainB (k : Int) = true) :
    Calls Tryz.prog 112 #[.string s] w fun e w' => e = .returned (.tuple #[.int .u8 0, .int .i64 0]) ∧ Below w.heap.size w w' := by
  have HP := hid hp
  have HA := hid ha
  have HB := hid hb
  have HO : Hid (bits BinOp.or IntKind.i64 ((a : Int) * 16) b % 256 = (k : Int)) := by rw [hk]; exact or_nibble a b ha16 hb16
  have HQ := hid hq
  clear hp ha hb hk
  have h3 : ¬ (s.size : Int) < 3 := by omega
  have h11 : 1 < s.size := by omega
  have h12 : (1 : Int) < s.size := by omega
  have h13 : (2 : Int) < s.size := by omega
  have h14 := hid (And.intro hpl hn)
  go_enter Tryz.func112, Tryz.ntmps112
  go_wp2_with (first | (go_at_call 100; refine (isPlain_any _ _ HP.out).mono ?_; rintro e w1 ⟨rfl, hb1⟩))
  go_quiet (first | (go_at_call 76; refine Calls.quiet_of_same (ixd_any _ _)))
  rw [HA.out, HB.out]
  have hb1' := bel_drewN hb1 nq
  have HP2 : PlainAt (w1.drewN nq) := HP.out.on hb1'
  go_wp2_with (first | (go_at_call 100; rw [HO.out]; refine (isPlain_any _ _ HP2).mono ?_; rintro e w2 ⟨rfl, hb2⟩; rw [HQ.out]))
  go_ret2
  exact ⟨rfl, hb1'.trans (hb2.mono hb1'.size)⟩

set_option maxHeartbeats 2000000 in
theorem first_hexn (s : ByteArray) (w : World) (hp : PlainAt w) (h0 : 2 < s.size) (hpl : plainB (s[0].toNat : Int) = false) (hn : (s[0].toNat : Int) = 37) (a b k : Nat) (ha : hexv s[1] = a) (hb : hexv s[2] = b) (ha16 : a < 16) (hb16 : b < 16) (hk : k = 16 * a + b) (hq : plainB (k : Int) = false) :
    Calls Tryz.prog 112 #[.string s] w fun e w' => e = .returned (.tuple #[.int .u8 k, .int .i64 3]) ∧ Below w.heap.size w w' := by
  have HP := hid hp
  have HA := hid ha
  have HB := hid hb
  have HO : Hid (bits BinOp.or IntKind.i64 ((a : Int) * 16) b % 256 = (k : Int)) := by rw [hk]; exact or_nibble a b ha16 hb16
  have HQ := hid hq
  clear hp ha hb hk
  have h3 : ¬ (s.size : Int) < 3 := by omega
  have h11 : 1 < s.size := by omega
  have h12 : (1 : Int) < s.size := by omega
  have h13 : (2 : Int) < s.size := by omega
  have h14 := hid (And.intro hpl hn)
  go_enter Tryz.func112, Tryz.ntmps112
  go_wp2_with (first | (go_at_call 100; refine (isPlain_any _ _ HP.out).mono ?_; rintro e w1 ⟨rfl, hb1⟩))
  go_quiet (first | (go_at_call 76; refine Calls.quiet_of_same (ixd_any _ _)))
  rw [HA.out, HB.out]
  have hb1' := bel_drewN hb1 nq
  have HP2 : PlainAt (w1.drewN nq) := HP.out.on hb1'
  go_wp2_with (first | (go_at_call 100; rw [HO.out]; refine (isPlain_any _ _ HP2).mono ?_; rintro e w2 ⟨rfl, hb2⟩; rw [HQ.out]))
  go_ret2
  exact ⟨rfl, hb1'.trans (hb2.mono hb1'.size)⟩

theorem plain37 : plainB 37 = false := by decide

theorem first_any (s : ByteArray) (w : World) (hp : PlainAt w) (h0 : 0 < s.size) :
    Calls Tryz.prog 112 #[.string s] w fun e w' => e = .returned (firstV (firstP s.data.toList)) ∧ Below w.heap.size w w' := by
  obtain ⟨c, r, hl⟩ : ∃ c r, s.data.toList = c :: r := by
    cases h : s.data.toList with
    | nil => have : s.data.toList.length = s.size := by simp
             rw [h] at this; simp at this; omega
    | cons c r => exact ⟨c, r, rfl⟩
  have hlen : s.size = r.length + 1 := by
    have : s.data.toList.length = s.size := by simp
    rw [hl] at this; simp at this; omega
  have e0 : s[0] = c := by
    have := byte_at s 0 h0
    rw [← this]; simp [hl]
  rw [hl]
  cases hpl : plainB (c.toNat : Int) with
  | true =>
    refine (first_plain s w hp h0 (by rw [e0]; exact hpl)).mono ?_
    rintro e w' ⟨rfl, hb⟩
    refine ⟨?_, hb⟩
    rw [e0]; simp [firstP, hpl, firstV]
  | false =>
    by_cases hc : c = 37
    · subst hc
      match r, hl, hlen with
      | [], hl, hlen =>
        refine (first_other s w hp h0 (by rw [e0]; exact hpl) (Or.inr (by rw [hlen]; simp))).mono ?_
        rintro e w' ⟨rfl, hb⟩
        exact ⟨by simp [firstP, plain37, firstV], hb⟩
      | [a], hl, hlen =>
        refine (first_other s w hp h0 (by rw [e0]; exact hpl) (Or.inr (by rw [hlen]; simp))).mono ?_
        rintro e w' ⟨rfl, hb⟩
        exact ⟨by simp [firstP, plain37, firstV], hb⟩
      | a :: b :: t, hl, hlen =>
        have h2 : 2 < s.size := by rw [hlen]; simp
        have e1 : s[1] = a := by rw [← byte_at s 1 (by omega)]; simp [hl]
        have e2 : s[2] = b := by rw [← byte_at s 2 (by omega)]; simp [hl]
        have h37 : ((s[0].toNat : Nat) : Int) = 37 := by rw [e0]; rfl
        by_cases hab : hexv a < 0 ∨ hexv b < 0
        · refine (first_bad s w hp h2 (by rw [e0]; exact hpl) h37 (by rw [e1, e2]; exact hab)).mono ?_
          rintro e w' ⟨rfl, hb⟩
          exact ⟨by simp [firstP, plain37, firstV, hab], hb⟩
        · obtain ⟨x, hx, hxe, _⟩ : ∃ k : Nat, k < 16 ∧ hexv a = k ∧ a = hexd k := by
            rcases hexv_cases a with h | h
            · omega
            · exact h
          obtain ⟨y, hy, hye, _⟩ : ∃ k : Nat, k < 16 ∧ hexv b = k ∧ b = hexd k := by
            rcases hexv_cases b with h | h
            · omega
            · exact h
          have en : (UInt8.ofNat (16 * x + y)).toNat = 16 * x + y := by rw [UInt8.toNat_ofNat']; omega
          have hab' : ¬ ((x : Int) < 0 ∨ (y : Int) < 0) := by omega
          cases hq : plainB ((16 * x + y : Nat) : Int)
          · refine (first_hexn s w hp h2 (by rw [e0]; exact hpl) h37 x y _ (by rw [e1]; exact hxe) (by rw [e2]; exact hye) hx hy rfl hq).mono ?_
            rintro e w' ⟨rfl, hb⟩
            refine ⟨?_, hb⟩
            simp only [firstP, hpl, hxe, hye, if_neg hab', Int.toNat_natCast, en, hq]; simp [firstV]; omega
          · refine (first_hexp s w hp h2 (by rw [e0]; exact hpl) h37 x y _ (by rw [e1]; exact hxe) (by rw [e2]; exact hye) hx hy rfl hq).mono ?_
            rintro e w' ⟨rfl, hb⟩
            refine ⟨?_, hb⟩
            simp only [firstP, hpl, hxe, hye, if_neg hab', Int.toNat_natCast, en, hq]; simp [firstV]
    · have h37 : ((s[0].toNat : Nat) : Int) ≠ 37 := by
        rw [e0]
        intro h
        exact hc (UInt8.toNat_inj.1 (by have : c.toNat = 37 := by omega
                                        rw [this]; rfl))
      refine (first_other s w hp h0 (by rw [e0]; exact hpl) (Or.inl h37)).mono ?_
      rintro e w' ⟨rfl, hb⟩
      exact ⟨by simp [firstP, hpl, firstV, hc], hb⟩

end Go.Proofs.YtfcjnoojcajljaaGreatDoor

/-
  The contracts of the reference's plain, digit and hex.
-/
namespace Go.Proofs.YtfcjnoojcajljaaGreatDoor
open Go.RowKit

theorem plainB_of (n : Int) (h : plainRuns.any (fun r => decide (r.1 ≤ n) && decide (n ≤ r.2)) = true) : plainB n = true := h

theorem plain_ranges (n : Int) (g0 : (45 == n) = false) (g1 : (46 == n) = false) (g2 : (95 == n) = false) (g3 : (124 == n) = false) (g4 : (42 == n) = false) (g5 : (64 == n) = false) (g6 : (47 == n) = false) (g7 : (58 == n) = false) (g8 : (43 == n) = false) (g9 : (44 == n) = false) :
    plainB n = (decide (48 ≤ n) && decide (n ≤ 57) || decide (65 ≤ n) && decide (n ≤ 90) || decide (97 ≤ n) && decide (n ≤ 122)) := by
  rw [beq_eq_false_iff_ne] at *
  unfold plainB plainRuns
  simp only [List.any_cons, List.any_nil, Bool.or_false]
  have e : ∀ k : Int, k ≠ n → (decide (k ≤ n) && decide (n ≤ k)) = false := fun k hk => by
    rw [Bool.and_eq_false_iff, decide_eq_false_iff_not, decide_eq_false_iff_not]; omega
  rw [e 45 g0, e 46 g1, e 95 g2, e 124 g3, e 42 g4, e 64 g5, e 47 g6, e 58 g7, e 43 g8, e 44 g9]
  simp only [Bool.or_false]
  generalize (decide (97 ≤ n) && decide (n ≤ 122)) = a
  generalize (decide (65 ≤ n) && decide (n ≤ 90)) = b
  generalize (decide (48 ≤ n) && decide (n ≤ 57)) = c
  cases a <;> cases b <;> cases c <;> rfl

set_option maxHeartbeats 4000000 in
set_option maxRecDepth 100000 in
theorem rplain_any (n : Int) (w : World) : Calls Tryz.prog 72 #[.int .u8 n] w fun e w' => e = .returned (.bool (plainB n)) ∧ w' = w := by
  have sign : ∀ k : Nat, k < 10 → ∀ c : Int, ([45, 46, 95, 124, 42, 64, 47, 58, 43, 44] : List Int)[k]? = some c → plainB c = true := by
    intro k hk c hc
    have : ∀ c ∈ ([45, 46, 95, 124, 42, 64, 47, 58, 43, 44] : List Int), plainB c = true := by decide
    exact this c (List.mem_of_getElem? hc)
  by_cases h : ∃ k : Nat, k < 10 ∧ ([45, 46, 95, 124, 42, 64, 47, 58, 43, 44] : List Int)[k]? = some n
  · obtain ⟨k, hk, hn⟩ := h
    have HP := hid (sign k hk n hn)
    clear sign
    have : k = 0 ∨ k = 1 ∨ k = 2 ∨ k = 3 ∨ k = 4 ∨ k = 5 ∨ k = 6 ∨ k = 7 ∨ k = 8 ∨ k = 9 := by omega
    rcases this with rfl | rfl | rfl | rfl | rfl | rfl | rfl | rfl | rfl | rfl
    all_goals
      simp only [List.getElem?_cons_zero, List.getElem?_cons_succ, Option.some.injEq] at hn
      subst hn
      go_enter Tryz.func72, Tryz.ntmps72
      go_wp2
      refine wp_loop_rounds 11 ?_
      repeat (rw [rounds_succ]; go_wp2)
      go_ret
      exact ⟨ret_bool HP.out.symm, rfl⟩
  · have hne : ∀ k : Nat, k < 10 → ∀ c : Int, ([45, 46, 95, 124, 42, 64, 47, 58, 43, 44] : List Int)[k]? = some c → (c == n) = false := fun k hk c hc => by
      rw [beq_eq_false_iff_ne]
      intro e
      subst e
      exact h ⟨k, hk, hc⟩
    have g0 := hne 0 (by decide) 45 rfl; have g1 := hne 1 (by decide) 46 rfl; have g2 := hne 2 (by decide) 95 rfl; have g3 := hne 3 (by decide) 124 rfl; have g4 := hne 4 (by decide) 42 rfl
    have g5 := hne 5 (by decide) 64 rfl; have g6 := hne 6 (by decide) 47 rfl; have g7 := hne 7 (by decide) 58 rfl; have g8 := hne 8 (by decide) 43 rfl; have g9 := hne 9 (by decide) 44 rfl
    have HR := hid (plain_ranges n g0 g1 g2 g3 g4 g5 g6 g7 g8 g9)
    clear hne h sign
    have z0 : ((⟨#[45, 46, 95, 124, 42, 64, 47, 58, 43, 44]⟩ : ByteArray)[0]'(by decide)).toNat = 45 := rfl
    have z1 : ((⟨#[45, 46, 95, 124, 42, 64, 47, 58, 43, 44]⟩ : ByteArray)[1]'(by decide)).toNat = 46 := rfl
    have z2 : ((⟨#[45, 46, 95, 124, 42, 64, 47, 58, 43, 44]⟩ : ByteArray)[2]'(by decide)).toNat = 95 := rfl
    have z3 : ((⟨#[45, 46, 95, 124, 42, 64, 47, 58, 43, 44]⟩ : ByteArray)[3]'(by decide)).toNat = 124 := rfl
    have z4 : ((⟨#[45, 46, 95, 124, 42, 64, 47, 58, 43, 44]⟩ : ByteArray)[4]'(by decide)).toNat = 42 := rfl
    have z5 : ((⟨#[45, 46, 95, 124, 42, 64, 47, 58, 43, 44]⟩ : ByteArray)[5]'(by decide)).toNat = 64 := rfl
    have z6 : ((⟨#[45, 46, 95, 124, 42, 64, 47, 58, 43, 44]⟩ : ByteArray)[6]'(by decide)).toNat = 47 := rfl
    have z7 : ((⟨#[45, 46, 95, 124, 42, 64, 47, 58, 43, 44]⟩ : ByteArray)[7]'(by decide)).toNat = 58 := rfl
    have z8 : ((⟨#[45, 46, 95, 124, 42, 64, 47, 58, 43, 44]⟩ : ByteArray)[8]'(by decide)).toNat = 43 := rfl
    have z9 : ((⟨#[45, 46, 95, 124, 42, 64, 47, 58, 43, 44]⟩ : ByteArray)[9]'(by decide)).toNat = 44 := rfl
    go_enter Tryz.func72, Tryz.ntmps72
    go_wp2
    refine wp_loop_rounds 11 ?_
    repeat (rw [rounds_succ]; go_wp2)
    all_goals go_ret
    all_goals refine ⟨ret_bool ?_, rfl⟩
    all_goals (rw [HR.out, Bool.eq_iff_iff]; first | (simp; omega) | simp | omega)

end Go.Proofs.YtfcjnoojcajljaaGreatDoor

/-
  The contracts of the reference's digit and hex.
-/
namespace Go.Proofs.YtfcjnoojcajljaaGreatDoor
open Go.RowKit

set_option maxHeartbeats 1000000 in
theorem rdigit_any (k : Nat) (hk : k < 16) (w : World) : Calls Tryz.prog 73 #[.int .u8 (k : Nat)] w fun e w' => e = .returned (.int .u8 ((hexd k).toNat : Nat)) ∧ w' = w := by
  have : k = 0 ∨ k = 1 ∨ k = 2 ∨ k = 3 ∨ k = 4 ∨ k = 5 ∨ k = 6 ∨ k = 7 ∨ k = 8 ∨ k = 9 ∨ k = 10 ∨ k = 11 ∨ k = 12 ∨ k = 13 ∨ k = 14 ∨ k = 15 := by omega
  rcases this with rfl | rfl | rfl | rfl | rfl | rfl | rfl | rfl | rfl | rfl | rfl | rfl | rfl | rfl | rfl | rfl
  all_goals
    go_enter Tryz.func73, Tryz.ntmps73
    go_wp2
    go_ret
    exact ⟨rfl, rfl⟩

/-- The number of a digit, or 16. -/
def hexN (c : UInt8) : Nat := if 48 ≤ c.toNat ∧ c.toNat ≤ 57 then c.toNat - 48 else if 97 ≤ c.toNat ∧ c.toNat ≤ 102 then c.toNat - 87 else 16

theorem hexN_table : ((List.range 256).all fun n => decide (hexv (UInt8.ofNat n) = if hexN (UInt8.ofNat n) = 16 then -1 else (hexN (UInt8.ofNat n) : Int))) = true := by kernel_rfl
theorem hexN_eq (c : UInt8) : hexv c = if hexN c = 16 then -1 else (hexN c : Int) := by
  have h := List.all_eq_true.1 hexN_table c.toNat (List.mem_range.2 c.toNat_lt)
  rw [decide_eq_true_eq, UInt8.ofNat_toNat] at h
  exact h
theorem hexN_le (c : UInt8) : hexN c ≤ 16 := by unfold hexN; split <;> (try split) <;> omega

set_option maxHeartbeats 1000000 in
theorem rhex_any (c : UInt8) (w : World) : Calls Tryz.prog 113 #[.int .u8 (c.toNat : Nat)] w fun e w' => e = .returned (.int .u8 (hexN c : Nat)) ∧ w' = w := by
  have hc := c.toNat_lt
  have HN : Hid (hexN c = if 48 ≤ c.toNat ∧ c.toNat ≤ 57 then c.toNat - 48 else if 97 ≤ c.toNat ∧ c.toNat ≤ 102 then c.toNat - 87 else 16) := rfl
  obtain ⟨r, hr⟩ : ∃ r, hexN c = r := ⟨_, rfl⟩
  rw [hr]
  rw [hr] at HN
  clear hr
  by_cases h1 : 48 ≤ c.toNat ∧ c.toNat ≤ 57
  · have a1 : decide ((48 : Int) ≤ (c.toNat : Int)) = true := decide_eq_true (by omega)
    have a2 : decide ((c.toNat : Int) ≤ 57) = true := decide_eq_true (by omega)
    have H : Hid ((c.toNat : Int) - 48 = (r : Int)) := by show _ = _; rw [HN.out, if_pos h1]; omega
    go_enter Tryz.func113, Tryz.ntmps113
    go_wp2
    go_ret
    exact ⟨congrArg (fun z => Ending.returned (.int .u8 z)) H.out, rfl⟩
  · by_cases h2 : 97 ≤ c.toNat ∧ c.toNat ≤ 102
    · have a0 : decide ((48 : Int) ≤ (c.toNat : Int)) = true := decide_eq_true (by omega)
      have a00 : decide ((c.toNat : Int) ≤ 57) = false := decide_eq_false (by omega)
      have a1 : decide ((97 : Int) ≤ (c.toNat : Int)) = true := decide_eq_true (by omega)
      have a2 : decide ((c.toNat : Int) ≤ 102) = true := decide_eq_true (by omega)
      have H : Hid ((c.toNat : Int) - 87 = (r : Int)) := by show _ = _; rw [HN.out, if_neg h1, if_pos h2]; omega
      go_enter Tryz.func113, Tryz.ntmps113
      go_wp2
      go_ret
      exact ⟨congrArg (fun z => Ending.returned (.int .u8 z)) H.out, rfl⟩
    · have H : Hid ((16 : Int) = (r : Int)) := by show _ = _; rw [HN.out, if_neg h1, if_neg h2]; rfl
      clear HN
      by_cases h3 : c.toNat < 48
      · have a1 : decide ((48 : Int) ≤ (c.toNat : Int)) = false := decide_eq_false (by omega)
        have a2 : decide ((97 : Int) ≤ (c.toNat : Int)) = false := decide_eq_false (by omega)
        go_enter Tryz.func113, Tryz.ntmps113
        go_wp2
        go_ret
        exact ⟨congrArg (fun z => Ending.returned (.int .u8 z)) H.out, rfl⟩
      · have a1 : decide ((48 : Int) ≤ (c.toNat : Int)) = true := decide_eq_true (by omega)
        have a2 : decide ((c.toNat : Int) ≤ 57) = false := decide_eq_false (by omega)
        by_cases h4 : c.toNat < 97
        · have a3 : decide ((97 : Int) ≤ (c.toNat : Int)) = false := decide_eq_false (by omega)
          go_enter Tryz.func113, Tryz.ntmps113
          go_wp2
          go_ret
          exact ⟨congrArg (fun z => Ending.returned (.int .u8 z)) H.out, rfl⟩
        · have a3 : decide ((97 : Int) ≤ (c.toNat : Int)) = true := decide_eq_true (by omega)
          have a4 : decide ((c.toNat : Int) ≤ 102) = false := decide_eq_false (by omega)
          go_enter Tryz.func113, Tryz.ntmps113
          go_wp2
          go_ret
          exact ⟨congrArg (fun z => Ending.returned (.int .u8 z)) H.out, rfl⟩

end Go.Proofs.YtfcjnoojcajljaaGreatDoor

/-
  The contract of withText: a text behind a row of bytes.
-/
namespace Go.Proofs.YtfcjnoojcajljaaGreatDoor
open Go.RowKit

/-- v owns the bytes bs, in a row at or behind n0. -/
def OwnB (n0 : Nat) (w : World) (v : Value) (bs : List UInt8) : Prop := w.ownsRow n0 5 1 v bs.length (Lib.byteCells bs)

/-- Whatever is no row of bytes lies as it lay. -/
def KeptB (w w' : World) : Prop := ∀ (k : Nat) (o : Obj), w.heap[k]? = some o → (¬ ∃ cs fr, o = .cells cs 5 fr) → w'.heap[k]? = some o

theorem KeptB.refl (w : World) : KeptB w w := fun _ _ h _ => h
theorem KeptB.trans {a b c : World} (h : KeptB a b) (k : KeptB b c) : KeptB a c := fun i o hi hn => k i o (h i o hi hn) hn
theorem KeptB.alloc (w : World) (o : Obj) : KeptB w (w.alloc o) := fun i _ hi _ => (Below.heap_alloc w o i (Array.getElem?_eq_some_iff.1 hi).1).trans hi
theorem KeptB.grown {w w' : World} {n0 : Nat} {v : Value} {n : Nat} {xs : List Value} (hown : w.ownsRow n0 5 1 v n xs) (hg : w.grownBy w' v.ownBlock) : KeptB w w' := fun i o hi hn => by
  refine (hg.block i (Array.getElem?_eq_some_iff.1 hi).1 fun e => ?_).trans hi
  rcases hown.2 with ⟨hv, _⟩ | ⟨g, cap, cur, hv, _, hgb, _⟩
  · rw [hv] at e; cases e
  · rw [hv] at e
    have : i = g := by simpa [Value.ownBlock] using e
    subst this
    rw [hgb] at hi
    exact hn ⟨cur, (0, 0), by cases hi; rfl⟩
theorem KeptB.below {w w' : World} (h : Below w.heap.size w w') : KeptB w w' := fun i _ hi _ => (h.block i (Array.getElem?_eq_some_iff.1 hi).1).trans hi

theorem OwnB.on {n0 : Nat} {w w' : World} {v : Value} {bs : List UInt8} (h : OwnB n0 w v bs) (hb : Below w.heap.size w w') : OwnB n0 w' v bs := own_on h hb

end Go.Proofs.YtfcjnoojcajljaaGreatDoor

/-
  The contracts of Encode and Size.
-/
namespace Go.Proofs.YtfcjnoojcajljaaGreatDoor
open Go.RowKit

def encT (t : ByteArray) : List UInt8 := UInt8.ofNat t.size :: t.data.toList
def encF (f : Fld) : List UInt8 := encT f.1 ++ [UInt8.ofNat f.2.length] ++ f.2.flatMap encT
def encL (fs : List Fld) : List UInt8 := UInt8.ofNat fs.length :: fs.flatMap encF

theorem encT_len (t : ByteArray) : (encT t).length = t.size + 1 := by simp [encT]

theorem flat_len {α : Type} (f : α → List UInt8) (c : Nat) (l : List α) (h : ∀ x ∈ l, (f x).length ≤ c) : (l.flatMap f).length ≤ l.length * c := by
  induction l with
  | nil => simp
  | cons x l ih =>
    rw [List.flatMap_cons, List.length_append, List.length_cons, Nat.add_mul]
    have h1 := h x (by simp)
    have h2 := ih fun y hy => h y (by simp [hy])
    omega

theorem fieldB_len {l : List UInt8} (h : fieldB l = true) : l.length ≤ 32 := by
  unfold fieldB spell at h
  cases l with
  | nil => simp
  | cons c r => simp at h; simp; omega

theorem fits_parts {f : Fld} (h : fitsB f = true) : f.1.size ≤ 32 ∧ 0 < f.2.length ∧ f.2.length ≤ 8 ∧ (∀ t ∈ f.2, t.size ≤ 128) ∧ fieldB f.1.data.toList = true := by
  unfold fitsB at h
  simp only [Bool.and_eq_true, Bool.not_eq_true', decide_eq_true_eq] at h
  obtain ⟨⟨⟨h1, h2⟩, h3⟩, h4⟩ := h
  refine ⟨by simpa using fieldB_len h1, ?_, h3, fun t ht => ?_, h1⟩
  · cases hf : f.2 with
    | nil => rw [hf] at h2; simp at h2
    | cons _ _ => simp
  · rw [List.any_eq_false] at h4
    have := h4 t ht
    unfold longB at this
    simpa using this

theorem fits_texts {f : Fld} (h : fitsB f = true) (j : Nat) : ((f.2.take j).flatMap encT).length ≤ 1032 := by
  obtain ⟨_, _, h3, h4, _⟩ := fits_parts h
  have := flat_len encT 129 (f.2.take j) (fun t ht => by rw [encT_len]; have := h4 t (List.mem_of_mem_take ht); omega)
  rw [List.length_take] at this
  have h5 : min j f.2.length * 129 ≤ 8 * 129 := Nat.mul_le_mul_right _ (by omega)
  omega

theorem encF_len {f : Fld} (h : fitsB f = true) : (encF f).length ≤ 1066 := by
  have h1 := (fits_parts h).1
  have h2 := fits_texts h f.2.length
  rw [List.take_length] at h2
  unfold encF
  rw [List.length_append, List.length_append, encT_len]
  simp only [List.length_cons, List.length_nil]
  omega

theorem may_parts {fs : List Fld} (h : mayB fs = true) : fs.length ≤ 16 ∧ ∀ i, i < fs.length → stepOk fs i = true := by
  unfold mayB at h
  rw [Bool.and_eq_true, decide_eq_true_eq, List.all_eq_true] at h
  exact ⟨h.1, fun i hi => h.2 i (List.mem_range.2 hi)⟩

theorem may_fits {fs : List Fld} (h : mayB fs = true) : ∀ f ∈ fs, fitsB f = true := by
  intro f hf
  obtain ⟨i, hi, rfl⟩ := List.mem_iff_getElem.1 hf
  have := (may_parts h).2 i hi
  unfold stepOk at this
  rw [Bool.and_eq_true, List.getD_eq_getElem?_getD, List.getElem?_eq_getElem hi] at this
  exact this.1

theorem enc_ahead {fs : List Fld} (h : mayB fs = true) (i : Nat) : ((fs.take i).flatMap encF).length ≤ 17056 := by
  have := flat_len encF 1066 (fs.take i) (fun f hf => encF_len (may_fits h f (List.mem_of_mem_take hf)))
  rw [List.length_take] at this
  have h5 : min i fs.length * 1066 ≤ 16 * 1066 := Nat.mul_le_mul_right _ (by have := (may_parts h).1; omega)
  omega

/-- A field's box is no row of bytes. -/
theorem box_kept {w w' : World} {F : Nat} {cs : Array Value} {fr : Nat × Nat} (hk : KeptB w w') (h : w.heap[F]? = some (.cells cs 43 fr)) : w'.heap[F]? = some (.cells cs 43 fr) :=
  hk F _ h (by rintro ⟨cs', fr', e⟩; injection e with _ e; exact absurd e (by decide))

theorem box_cells {w w' : World} {u v : Value} (hk : KeptB (w.alloc (.cells #[u, v] 43)) w') :
    w'.cell? ⟨w.heap.size, 0, none⟩ = some u ∧ w'.cell? ⟨w.heap.size, 1, none⟩ = some v := by
  have hbx := box_kept hk (heap_alloc_new w _)
  exact ⟨by rw [Lib.cell_of_heap hbx]; rfl, by rw [Lib.cell_of_heap hbx]; rfl⟩

def encV (w' : World) (n0 : Nat) (fs : List Fld) (e : Ending) : Prop :=
  if mayB fs = true then ∃ v, e = .returned (.tuple #[v, .int .i64 0]) ∧ OwnB n0 w' v (encL fs) else e = .returned (.tuple #[.slice none 0 0, .int .i64 3])

end Go.Proofs.YtfcjnoojcajljaaGreatDoor

/-
  The contract of the reference's May.
-/
namespace Go.Proofs.YtfcjnoojcajljaaGreatDoor
open Go.RowKit

theorem step_of {fs : List Fld} {i : Nat} {f : Fld} (h : fs.getD i default = f) (h1 : fieldB f.1.data.toList = true) (h2 : 0 < f.2.length) (h3 : f.2.length ≤ 8) (h4 : ∀ t ∈ f.2, t.size ≤ 128) (h5 : i = 0 ∨ ltN (fs.getD (i - 1) default).1 f.1 = true) : stepOk fs i = true := by
  unfold stepOk fitsB
  rw [h, h1, decide_eq_true h3]
  have e1 : f.2.isEmpty = false := by
    cases hf : f.2 with
    | nil => rw [hf] at h2; simp at h2
    | cons _ _ => rfl
  have e2 : f.2.any longB = false := by
    rw [List.any_eq_false]
    intro t ht
    have := h4 t ht
    unfold longB
    simpa using this
  rw [e1, e2]
  rcases h5 with h5 | h5
  · rw [decide_eq_true h5]; rfl
  · rw [h5]; simp

theorem step_not {fs : List Fld} {i : Nat} {f : Fld} (h : fs.getD i default = f) (hn : fieldB f.1.data.toList = false ∨ f.2.length = 0 ∨ 8 < f.2.length ∨ (∃ t ∈ f.2, 128 < t.size) ∨ (i ≠ 0 ∧ ltN (fs.getD (i - 1) default).1 f.1 = false)) : stepOk fs i = false := by
  unfold stepOk fitsB
  rw [h]
  rcases hn with hn | hn | hn | ⟨t, ht, hn⟩ | ⟨hn, hm⟩
  · rw [hn]; rfl
  · rw [List.length_eq_zero_iff] at hn
    rw [hn]; simp
  · rw [decide_eq_false (by omega)]; simp
  · have : f.2.any longB = true := by
      rw [List.any_eq_true]
      exact ⟨t, ht, by unfold longB; simpa using hn⟩
    rw [this]; simp
  · rw [decide_eq_false hn, hm]; simp

end Go.Proofs.YtfcjnoojcajljaaGreatDoor

/-
  The contract of Size.
-/
namespace Go.Proofs.YtfcjnoojcajljaaGreatDoor
open Go.RowKit

def sizeN (fs : List Fld) : Nat := if mayB fs = true then (encL fs).length else 0

end Go.Proofs.YtfcjnoojcajljaaGreatDoor

/-
  The contracts of the reference's put and Encode.
-/
namespace Go.Proofs.YtfcjnoojcajljaaGreatDoor
open Go.RowKit

theorem new_byte (w : World) (c : Int) : ∀ j u, ([.int .u8 c] : List Value)[j]? = some u → (w.alloc (.cells #[.int .u8 c] 5)).cell? ((⟨w.heap.size, 0, none⟩ : Addr).add j) = some u := by
  intro j u hj
  match j, hj with
  | 0, hj => simp at hj; subst hj; simp [Addr.add]

theorem one_byte (c : Int) : ∀ u ∈ ([.int .u8 c] : List Value), u.oneCell' = true := by intro u hu; simp at hu; subst hu; rfl

theorem ownB_put {n0 : Nat} {w : World} {v : Value} {bs : List UInt8} {c : UInt8} {k : Int} {n : Nat} (h : w.ownsRow n0 5 1 v n (Lib.byteCells bs ++ [.int .u8 k])) (hn : n = bs.length + 1) (hk : (c.toNat : Int) = k) : OwnB n0 w v (bs ++ [c]) := by
  subst hn
  unfold OwnB
  have e2 : Lib.byteCells (bs ++ [c]) = Lib.byteCells bs ++ [.int .u8 k] := by simp [Lib.byteCells, hk]
  rw [e2, List.length_append]
  exact h

end Go.Proofs.YtfcjnoojcajljaaGreatDoor

/-
  The contract of Read.
-/
namespace Go.Proofs.YtfcjnoojcajljaaGreatDoor
open Go.RowKit

theorem firstP_some {l : List UInt8} {c : UInt8} {n : Nat} (h : firstP l = some (c, n)) : 0 < n ∧ n ≤ l.length := by
  match l, h with
  | [], h => simp [firstP] at h
  | x :: r, h =>
    simp only [firstP] at h
    by_cases c1 : plainB (x.toNat : Int) = true
    · rw [if_pos c1] at h; simp at h; obtain ⟨_, rfl⟩ := h; simp
    · rw [if_neg c1] at h
      by_cases c2 : x ≠ 37
      · rw [if_pos c2] at h; simp at h
      · rw [if_neg c2] at h
        match r, h with
        | [], h => simp at h
        | [a], h => simp at h
        | a :: b :: t, h =>
          simp only at h
          split at h
          · simp at h
          · split at h
            · simp at h
            · simp at h; obtain ⟨_, rfl⟩ := h; simp

def readL (l : List UInt8) : Option (List UInt8) :=
  if l = [] then some [] else
    match _h : firstP l with
    | none => none
    | some (c, n) => (readL (l.drop n)).map (c :: ·)
  termination_by l.length
  decreasing_by have := firstP_some _h; rw [List.length_drop]; omega

theorem readL_nil : readL [] = some [] := by unfold readL; simp

theorem readL_none {l : List UInt8} (h0 : l ≠ []) (h : firstP l = none) : readL l = none := by
  unfold readL
  rw [if_neg h0]
  split
  · rfl
  · rename_i h2; rw [h] at h2; simp at h2

theorem readL_some {l : List UInt8} {c : UInt8} {n : Nat} (h : firstP l = some (c, n)) : readL l = (readL (l.drop n)).map (c :: ·) := by
  have h0 : l ≠ [] := by rintro rfl; simp [firstP] at h
  conv => lhs; unfold readL
  rw [if_neg h0]
  split
  · rename_i h2; rw [h] at h2; simp at h2
  · rename_i c2 n2 h2; rw [h] at h2; simp at h2; obtain ⟨rfl, rfl⟩ := h2; rfl

theorem readL_len : ∀ (k : Nat) (l : List UInt8) (m : List UInt8), l.length ≤ k → readL l = some m → m.length ≤ l.length
  | 0, l, m, hk, h => by
    obtain rfl : l = [] := List.length_eq_zero_iff.1 (by omega)
    rw [readL_nil] at h; simp at h; subst h; simp
  | k + 1, l, m, hk, h => by
    by_cases h0 : l = []
    · subst h0; rw [readL_nil] at h; simp at h; subst h; simp
    · cases hf : firstP l with
      | none => rw [readL_none h0 hf] at h; simp at h
      | some o =>
        obtain ⟨c, n⟩ := o
        have hn := firstP_some hf
        rw [readL_some hf] at h
        cases hr : readL (l.drop n) with
        | none => rw [hr] at h; simp at h
        | some m' =>
          rw [hr] at h; simp at h; subst h
          have := readL_len k (l.drop n) m' (by rw [List.length_drop]; omega) hr
          rw [List.length_drop] at this
          rw [List.length_cons]; omega

def readV (o : Option (List UInt8)) : Value := match o with
  | some l => .tuple #[.string ⟨l.toArray⟩, .int .i64 0]
  | none => .tuple #[.string ⟨#[]⟩, .int .i64 4]

theorem readV_map (acc : List UInt8) (o : Option (List UInt8)) (h : o = none) : readV (o.map (acc ++ ·)) = .tuple #[.string ⟨#[]⟩, .int .i64 4] := by subst h; rfl

theorem ext_drop (s : ByteArray) (n : Nat) : (s.extract n s.size).data.toList = s.data.toList.drop n := by
  obtain ⟨⟨l⟩⟩ := s
  simp [ByteArray.size]
  exact List.take_of_length_le (by simp)

set_option maxHeartbeats 4000000 in
set_option maxRecDepth 100000 in
theorem read_any (s : ByteArray) (w : World) (hp : PlainAt w) (hs : s.size ≤ 140737488355327) :
    Calls Tryz.prog 77 #[.string s] w fun e w' => e = .returned (readV (readL s.data.toList)) ∧ Below w.heap.size w w' := by
  have HP := hid hp
  clear hp
  go_enter Tryz.func77, Tryz.ntmps77
  go_wp2_with fail
  go_loopg [0] s.size (fun g vs wr => ∃ (t : ByteArray) (acc : List UInt8), vs = .string t ∧ t.size ≤ g ∧ acc.length + t.size ≤ s.size ∧ Below w.heap.size w wr ∧ Lib.IsBuilder 80 5 w.heap.size w.heap.size (Lib.byteCells acc) wr ∧ Hid (readL s.data.toList = (readL t.data.toList).map (acc ++ ·)))
  case atStart => exact ⟨s, [], rfl, Nat.le_refl _, by simp, (Below.refl _ _).alloc (Nat.le_refl _) _, Lib.fresh_isBuilder _ _ _, by show _ = _; simp⟩
  case round =>
    obtain ⟨t, acc, rfl, hg, hlen, hb, hbu, HR⟩ := hrel
    have HB := hid hbu
    have HL := hid hlen
    clear hbu hlen
    by_cases h0 : 0 < t.size
    · have h0z : (0 : Int) < (t.size : Int) := by omega
      have HPr : PlainAt wr := HP.out.on hb
      have hne : t.data.toList ≠ [] := by
        intro e
        have : t.data.toList.length = t.size := by simp
        rw [e] at this; simp at this; omega
      cases hf : firstP t.data.toList with
      | none =>
        have HF := hid hf
        have HN : Hid (readL s.data.toList = none) := by show _ = _; rw [HR.out, readL_none hne hf]; rfl
        go_wp2_with (first | (go_at_call 112; refine (first_any _ _ HPr h0).mono ?_; rintro e w1 ⟨rfl, hb1⟩; rw [HF.out]; simp only [firstV]))
        go_ret2
        rw [HN.out]
        exact ⟨rfl, hb.trans (hb1.mono hb.size)⟩
      | some o =>
        obtain ⟨c, n⟩ := o
        have HF := hid hf
        obtain ⟨hn0, hn1⟩ := firstP_some hf
        have hn2 : n ≤ t.size := by simpa using hn1
        have HN : Hid (readL s.data.toList = (readL (t.data.toList.drop n)).map ((acc ++ [c]) ++ ·)) := by
          show _ = _; rw [HR.out, readL_some hf, Option.map_map]; congr 1; funext x; simp
        have hz : ¬ (n : Int) = 0 := by omega
        have hz1 : (0 : Int) ≤ n := by omega
        have hz2 : (n : Int) ≤ (t.size : Int) := by omega
        clear hne hn1
        go_wp2_with (first | (go_at_call 112; refine (first_any _ _ HPr h0).mono ?_; rintro e w1 ⟨rfl, hb1⟩; rw [HF.out]; simp only [firstV]) | (go_at_call 101; refine (wbyte_any w.heap.size w.heap.size _ _ _ (bld_on HB.out hb1) (by rw [Lib.byteCells_length]; have := HL.out; omega) (Nat.le_trans hb.size hb1.size)).mono ?_; rintro e w2 ⟨rfl, hbu2, hb2⟩))
        go_roundg (t.size - n)
        case measure => omega
        refine ⟨t.extract n t.size, acc ++ [c], rfl, ?_, ?_, (hb.trans (hb1.mono hb.size)).trans hb2, ?_, ?_⟩
        · simp
        · have := HL.out; simp; omega
        · simpa [Lib.byteCells] using hbu2
        · show _ = _
          rw [ext_drop]; exact HN.out
    · have h0z : ¬ (0 : Int) < (t.size : Int) := by omega
      have hnil : t.data.toList = [] := by
        apply List.length_eq_zero_iff.1
        have : t.data.toList.length = t.size := by simp
        omega
      have HN : Hid (readL s.data.toList = some acc) := by show _ = _; rw [HR.out, hnil, readL_nil]; simp
      clear hnil
      go_wp2_with (go_at_call 71; refine (Tryz.Builder_String_any _ _ _ _ HB.out hb.size).mono ?_; rintro e w1 ⟨rfl, hb1⟩)
      go_ret2
      rw [HN.out]
      exact ⟨rfl, hb.trans hb1⟩

end Go.Proofs.YtfcjnoojcajljaaGreatDoor

/-
  The contract of field: the field that a word of a line says.
-/
namespace Go.Proofs.YtfcjnoojcajljaaGreatDoor
open Go.RowKit

/-- The name and the text that a word says. -/
def wordO (l : List UInt8) : Option (List UInt8 × List UInt8) :=
  if Lib.indexByte l 61 = -1 then none else (readL (l.drop ((Lib.indexByte l 61).toNat + 1))).map fun t => (l.take (Lib.indexByte l 61).toNat, t)

def WordPost (w : World) (l : List UInt8) (e : Ending) (w' : World) : Prop :=
  ((wordO l = none ∧ e = .returned (.tuple #[.agg #[.string ⟨#[]⟩, .slice none 0 0], .int .i64 4])) ∨
   ∃ n t, wordO l = some (n, t) ∧ ∃ p, e = .returned (.tuple #[.agg #[.string ⟨n.toArray⟩, .slice p 1 1], .int .i64 0]) ∧ OwnT w.heap.size w' (.slice p 1 1) [⟨t.toArray⟩]) ∧ Below w.heap.size w w'

theorem ext_take (s : ByteArray) (i : Nat) : s.extract 0 i = ⟨(s.data.toList.take i).toArray⟩ := by
  obtain ⟨⟨l⟩⟩ := s
  simp [ByteArray.extract, ByteArray.copySlice]

theorem box_facts {w : World} {B : Nat} {u v : Value} {T : TypeId} (h : w.heap[B]? = some (.cells #[u, v] T (0, 0))) :
    w.cell? ⟨B, 0, none⟩ = some u ∧ w.cell? ⟨B, 1, none⟩ = some v ∧ w.frozen? ⟨B, 0, none⟩ = false ∧ w.frozen? ⟨B, 1, none⟩ = false :=
  ⟨by rw [Lib.cell_of_heap h]; rfl, by rw [Lib.cell_of_heap h]; rfl, Lib.frozen_of_heap h 0, Lib.frozen_of_heap h 1⟩

end Go.Proofs.YtfcjnoojcajljaaGreatDoor

/-
  The plain mathematics of a stable sort: parts that change places, and equals that keep their order.
-/
namespace Go.Proofs.YtfcjnoojcajljaaGreatDoor
open Go.Sort
set_option linter.unusedSectionVars false
variable {α : Type} [Inhabited α] {κ : Type} [DecidableEq κ]

/-- Equals keep their order. -/
def Stab (K : α → κ) (d d' : Array α) : Prop := ∀ c, d'.toList.filter (fun x => decide (K x = c)) = d.toList.filter (fun x => decide (K x = c))

theorem Stab.refl (K : α → κ) (d : Array α) : Stab K d d := fun _ => rfl
theorem Stab.trans {K : α → κ} {d d' d'' : Array α} (h : Stab K d d') (h' : Stab K d' d'') : Stab K d d'' := fun c => (h' c).trans (h c)

/-- The parts s to m and m to e have changed places. -/
def Rot (s m e : Nat) (d d' : Array α) : Prop :=
  d'.size = d.size ∧ (∀ t, t < e - m → d'[s + t]! = d[m + t]!) ∧ (∀ t, t < m - s → d'[s + (e - m) + t]! = d[s + t]!) ∧ (∀ i, i < s ∨ e ≤ i → d'[i]! = d[i]!)

theorem toList_range (d : Array α) : d.toList = (List.range' 0 d.size).map (fun i => d[i]!) := by
  have h := extract_toList d 0 d.size (Nat.le_refl _)
  rw [Array.extract_size, Nat.sub_zero] at h
  exact h

theorem range'_cut (s k l : Nat) : List.range' s (k + l) = List.range' s k ++ List.range' (s + k) l := by
  rw [← List.range'_append_1]

theorem map_range'_shift (f g : Nat → α) (s s' n : Nat) (h : ∀ t, t < n → f (s + t) = g (s' + t)) : (List.range' s n).map f = (List.range' s' n).map g := by
  apply List.ext_getElem
  · simp
  · intro i h1 h2
    simp only [List.length_map, List.length_range'] at h1
    simp only [List.getElem_map, List.getElem_range', Nat.one_mul]
    exact h i h1

theorem Rot.parts {s m e : Nat} {d d' : Array α} (h : Rot s m e d d') (hsm : s ≤ m) (hme : m ≤ e) (he : e ≤ d.size) :
    ∃ A L R B : List α, d.toList = A ++ L ++ R ++ B ∧ d'.toList = A ++ R ++ L ++ B ∧ L = (List.range' s (m - s)).map (fun i => d[i]!) ∧ R = (List.range' m (e - m)).map (fun i => d[i]!) := by
  obtain ⟨hz, h1, h2, h3⟩ := h
  refine ⟨(List.range' 0 s).map (fun i => d[i]!), _, _, (List.range' e (d.size - e)).map (fun i => d[i]!), ?_, ?_, rfl, rfl⟩
  · rw [toList_range]
    have e1 : d.size = s + (m - s) + (e - m) + (d.size - e) := by omega
    conv => lhs; rw [e1]
    rw [range'_cut, range'_cut, range'_cut]
    simp only [List.map_append]
    rw [show 0 + s = s by omega, show 0 + (s + (m - s)) = m by omega, show 0 + (s + (m - s) + (e - m)) = e by omega]
  · rw [toList_range, hz]
    have e1 : d.size = s + (e - m) + (m - s) + (d.size - e) := by omega
    conv => lhs; rw [e1]
    rw [range'_cut, range'_cut, range'_cut]
    simp only [List.map_append]
    rw [show 0 + s = s by omega, show 0 + (s + (e - m)) = s + (e - m) by omega, show 0 + (s + (e - m) + (m - s)) = e by omega]
    congr 1
    · congr 1
      · congr 1
        · exact map_range'_shift _ _ 0 0 s (fun t ht => h3 _ (Or.inl (by omega)))
        · exact map_range'_shift _ _ _ _ _ (fun t ht => h1 t ht)
      · exact map_range'_shift _ _ _ _ _ (fun t ht => h2 t ht)
    · exact map_range'_shift _ _ _ _ _ (fun t ht => h3 _ (Or.inr (by omega)))

theorem Rot.stab {K : α → κ} {s m e : Nat} {d d' : Array α} (h : Rot s m e d d') (hsm : s ≤ m) (hme : m ≤ e) (he : e ≤ d.size)
    (hK : ∀ i j, s ≤ i → i < m → m ≤ j → j < e → K d[i]! ≠ K d[j]!) : Stab K d d' := by
  obtain ⟨A, L, R, B, e1, e2, hL, hR⟩ := h.parts hsm hme he
  intro c
  rw [e1, e2]
  simp only [List.filter_append]
  have : L.filter (fun x => decide (K x = c)) = [] ∨ R.filter (fun x => decide (K x = c)) = [] := by
    rcases hl : L.filter (fun x => decide (K x = c)) with _ | ⟨x, l⟩
    · exact Or.inl rfl
    · right
      have hx : x ∈ L.filter (fun x => decide (K x = c)) := by rw [hl]; simp
      rw [List.filter_eq_nil_iff]
      intro y hy hyc
      simp only [decide_eq_true_eq] at hyc
      obtain ⟨hx1, hx2⟩ := List.mem_filter.1 hx
      simp only [decide_eq_true_eq] at hx2
      rw [hL, List.mem_map] at hx1
      rw [hR, List.mem_map] at hy
      obtain ⟨i, hi, rfl⟩ := hx1
      obtain ⟨j, hj, rfl⟩ := hy
      rw [List.mem_range'_1] at hi hj
      exact hK i j (by omega) (by omega) (by omega) (by omega) (hx2.trans hyc.symm)
  rcases this with h0 | h0 <;> rw [h0] <;> simp

theorem Rot.perm {s m e : Nat} {d d' : Array α} (h : Rot s m e d d') (hsm : s ≤ m) (hme : m ≤ e) (he : e ≤ d.size) : PermIn s e d d' := by
  obtain ⟨hz, h1, h2, h3⟩ := h
  refine ⟨hz, h3, ?_⟩
  rw [extract_toList _ _ _ (by omega), extract_toList _ _ _ he]
  have e1 : e - s = (m - s) + (e - m) := by omega
  have e2 : e - s = (e - m) + (m - s) := by omega
  conv => lhs; rw [e2]
  conv => rhs; rw [e1]
  rw [range'_cut, range'_cut]
  simp only [List.map_append]
  rw [map_range'_shift (fun i => d'[i]!) (fun i => d[i]!) s m (e - m) (fun t ht => h1 t ht), map_range'_shift (fun i => d'[i]!) (fun i => d[i]!) (s + (e - m)) s (m - s) (fun t ht => h2 t ht), show s + (m - s) = m by omega]
  exact List.perm_append_comm

/-- An exchange of neighbours is such a change of places. -/
theorem rot_swp (d : Array α) (j : Nat) (h : j + 1 < d.size) : Rot j (j + 1) (j + 2) d (swp d (j + 1) j) := by
  refine ⟨size_swp _ _ _, fun t ht => ?_, fun t ht => ?_, fun i hi => ?_⟩
  · obtain rfl : t = 0 := by omega
    exact swp_right d (j + 1) j (by omega)
  · obtain rfl : t = 0 := by omega
    rw [show j + (j + 2 - (j + 1)) + 0 = j + 1 by omega]
    exact swp_left d (j + 1) j h (by omega)
  · exact swp_other d (j + 1) j i (by omega) (by omega)

theorem swp_comm (d : Array α) (i j : Nat) : swp d i j = swp d j i := by
  rcases Nat.lt_trichotomy i j with h | h | h
  · unfold swp; rw [Array.setIfInBounds_comm _ _ (by omega)]
  · rw [h]
  · unfold swp; rw [Array.setIfInBounds_comm _ _ (by omega)]

/-- The insertion sort keeps the order of equals. -/
theorem insInner_stab {K : α → κ} {lt : α → α → Bool} (hK : ∀ x y, lt x y = true → K x ≠ K y) (a : Nat) : ∀ (j : Nat) (d : Array α), j < d.size → Stab K d (insInner lt a j d)
  | 0, d, _ => Stab.refl K d
  | j + 1, d, hj => by
    unfold insInner
    split
    · rename_i hc
      simp only [Bool.and_eq_true, decide_eq_true_eq] at hc
      refine Stab.trans ((rot_swp d j hj).stab (by omega) (by omega) (by omega) fun i i' h1 h2 h3 h4 => ?_) (insInner_stab hK a j _ (by rw [size_swp]; omega))
      obtain rfl : i = j := by omega
      obtain rfl : i' = i + 1 := by omega
      exact fun e => hK _ _ hc.2 e.symm
    · exact Stab.refl K d

theorem insInner_size {lt : α → α → Bool} (a : Nat) : ∀ (j : Nat) (d : Array α), (insInner lt a j d).size = d.size
  | 0, d => rfl
  | j + 1, d => by
    unfold insInner
    split
    · rw [insInner_size a j, size_swp]
    · rfl

theorem insOuter_stab {K : α → κ} {lt : α → α → Bool} (hK : ∀ x y, lt x y = true → K x ≠ K y) (a b : Nat) : ∀ (n i : Nat) (d : Array α), b - i ≤ n → b ≤ d.size → Stab K d (insOuter lt a b i d)
  | 0, i, d, hn, hb => by
    unfold insOuter
    rw [if_neg (by omega)]
    exact Stab.refl K d
  | n + 1, i, d, hn, hb => by
    unfold insOuter
    split
    · exact (insInner_stab hK a i d (by omega)).trans (insOuter_stab hK a b n (i + 1) _ (by omega) (by rw [insInner_size]; exact hb))
    · exact Stab.refl K d

theorem insertionSort_stab {K : α → κ} {lt : α → α → Bool} (hK : ∀ x y, lt x y = true → K x ≠ K y) (d : Array α) (a b : Nat) (hb : b ≤ d.size) : Stab K d (insertionSort lt d a b) :=
  insOuter_stab hK a b _ _ d (Nat.le_refl _) hb

/-- One step of the rotation, the left part longer. -/
theorem Rot.left {s m e j : Nat} {d dk d' : Array α} (hsm : s ≤ m) (hme : m ≤ e) (hj : j = e - m) (hij : j ≤ m - s) (hz : dk.size = d.size) (h1 : ∀ t, t < j → dk[s + t]! = d[m + t]!) (h2 : ∀ t, t < j → dk[m + t]! = d[s + t]!)
    (h3 : ∀ i, (i < s ∨ s + j ≤ i) → (i < m ∨ m + j ≤ i) → dk[i]! = d[i]!) (h : Rot (s + j) m e dk d') : Rot s m e d d' := by
  obtain ⟨k1, k2, k3, k4⟩ := h
  refine ⟨k1.trans hz, fun t ht => ?_, fun t ht => ?_, fun i hi => ?_⟩
  · rw [k4 _ (Or.inl (by omega))]; exact h1 t (by omega)
  · by_cases hlt : t < j
    · have := k2 t (by omega)
      rw [show s + (e - m) + t = s + j + t by omega, this]
      exact h2 t hlt
    · have := k3 (t - j) (by omega)
      rw [show s + (e - m) + t = s + j + (e - m) + (t - j) by omega, this, h3 _ (by omega) (by omega)]
      congr 1; omega
  · rw [k4 _ (by omega), h3 _ (by omega) (by omega)]

/-- One step of the rotation, the right part longer. -/
theorem Rot.right {s m e i : Nat} {d dk d' : Array α} (hsm : s ≤ m) (hme : m ≤ e) (hi : i = m - s) (hij : i ≤ e - m) (hz : dk.size = d.size) (h1 : ∀ t, t < i → dk[s + t]! = d[e - i + t]!) (h2 : ∀ t, t < i → dk[e - i + t]! = d[s + t]!)
    (h3 : ∀ x, (x < s ∨ s + i ≤ x) → (x < e - i ∨ e ≤ x) → dk[x]! = d[x]!) (h : Rot s m (e - i) dk d') : Rot s m e d d' := by
  obtain ⟨k1, k2, k3, k4⟩ := h
  refine ⟨k1.trans hz, fun t ht => ?_, fun t ht => ?_, fun x hx => ?_⟩
  · by_cases hlt : t < e - i - m
    · rw [k2 t hlt, h3 _ (by omega) (by omega)]
    · have := k3 (t - (e - i - m)) (by omega)
      rw [show s + t = s + (e - i - m) + (t - (e - i - m)) by omega, this, h1 _ (by omega)]
      congr 1; omega
  · rw [k4 _ (by omega), show s + (e - m) + t = e - i + t by omega]
    exact h2 t (by omega)
  · rw [k4 _ (by omega), h3 _ (by omega) (by omega)]

/-- The rotation's last step: both parts are as long. -/
theorem Rot.even {s m e i : Nat} {d d' : Array α} (hi : i = m - s) (hsm : s ≤ m) (hme : m ≤ e) (hij : i = e - m) (hz : d'.size = d.size) (h1 : ∀ t, t < i → d'[s + t]! = d[m + t]!) (h2 : ∀ t, t < i → d'[m + t]! = d[s + t]!)
    (h3 : ∀ x, (x < s ∨ s + i ≤ x) → (x < m ∨ m + i ≤ x) → d'[x]! = d[x]!) : Rot s m e d d' :=
  ⟨hz, fun t ht => h1 t (by omega), fun t ht => by rw [show s + (e - m) + t = m + t by omega]; exact h2 t (by omega), fun x hx => h3 x (by omega) (by omega)⟩

end Go.Proofs.YtfcjnoojcajljaaGreatDoor

/-
  The plain mathematics of a symmetric merge.
-/
namespace Go.Proofs.YtfcjnoojcajljaaGreatDoor
open Go.Sort
set_option linter.unusedSectionVars false
variable {α : Type} [Inhabited α] {κ : Type} [DecidableEq κ]

/-- What a merge of the part a to b leaves. -/
def Mrg (lt : α → α → Bool) (K : α → κ) (a b : Nat) (d d' : Array α) : Prop := PermIn a b d d' ∧ SortedIn lt a b d' ∧ Stab K d d'

theorem SWO.le_le {lt : α → α → Bool} (hS : SWO lt) {x y z : α} (h1 : lt y x = false) (h2 : lt z y = false) : lt z x = false := hS.ntrans _ _ _ h2 h1

theorem SWO.lt_le {lt : α → α → Bool} (hS : SWO lt) {x y z : α} (h1 : lt x y = true) (h2 : lt z y = false) : lt x z = true := by
  cases h : lt x z
  · exact absurd (hS.ntrans _ _ _ h h2) (by rw [h1]; simp)
  · rfl

theorem SWO.le_lt {lt : α → α → Bool} (hS : SWO lt) {x y z : α} (h1 : lt y x = false) (h2 : lt y z = true) : lt x z = true := by
  cases h : lt x z
  · exact absurd (hS.ntrans _ _ _ h1 h) (by rw [h2]; simp)
  · rfl

theorem SortedIn.le {lt : α → α → Bool} (hS : SWO lt) {a b : Nat} {d : Array α} (h : SortedIn lt a b d) {i j : Nat} (h1 : a ≤ i) (h2 : i ≤ j) (h3 : j < b) : lt d[j]! d[i]! = false := by
  rcases Nat.eq_or_lt_of_le h2 with rfl | h4
  · exact hS.irrefl _
  · exact h i j h1 h4 h3

/-- One step of the first shift: the element of place a has come to place k. -/
theorem Rot.shift_up {a k : Nat} {d dk : Array α} (h : Rot a (a + 1) (k + 1) d dk) (hak : a ≤ k) (hk : k + 1 < d.size) : Rot a (a + 1) (k + 2) d (swp dk k (k + 1)) := by
  obtain ⟨h1, h2, h3, h4⟩ := h
  refine ⟨by rw [size_swp, h1], fun t ht => ?_, fun t ht => ?_, fun i hi => ?_⟩
  · by_cases hlt : t < k + 1 - (a + 1)
    · rw [swp_other _ _ _ _ (by omega) (by omega)]; exact h2 t hlt
    · rw [show a + t = k by omega, swp_left _ _ _ (by omega) (by omega), h4 _ (Or.inr (by omega))]; congr 1; omega
  · obtain rfl : t = 0 := by omega
    rw [show a + (k + 2 - (a + 1)) + 0 = k + 1 by omega, swp_right _ _ _ (by omega)]
    have := h3 0 (by omega)
    rw [show a + (k + 1 - (a + 1)) + 0 = k by omega] at this
    exact this
  · rw [swp_other _ _ _ _ (by omega) (by omega)]; exact h4 _ (by omega)

/-- One step of the second shift: the element of place m has come to place k + 1. -/
theorem Rot.shift_down {k m : Nat} {d dk : Array α} (h : Rot (k + 1) m (m + 1) d dk) (hkm : k + 1 ≤ m) (hm : m < d.size) : Rot k m (m + 1) d (swp dk (k + 1) k) := by
  obtain ⟨h1, h2, h3, h4⟩ := h
  refine ⟨by rw [size_swp, h1], fun t ht => ?_, fun t ht => ?_, fun i hi => ?_⟩
  · obtain rfl : t = 0 := by omega
    show (swp dk (k + 1) k)[k]! = d[m + 0]!
    rw [swp_right _ _ _ (by omega)]
    exact h2 0 (by omega)
  · by_cases h0 : t = 0
    · subst h0
      rw [show k + (m + 1 - m) + 0 = k + 1 by omega, swp_left _ _ _ (by omega) (by omega), h4 _ (Or.inl (by omega)), Nat.add_zero]
    · rw [swp_other _ _ _ _ (by omega) (by omega)]
      have := h3 (t - 1) (by omega)
      rw [show k + 1 + (m + 1 - m) + (t - 1) = k + (m + 1 - m) + t by omega] at this
      rw [this]; congr 1; omega
  · rw [swp_other _ _ _ _ (by omega) (by omega)]; exact h4 _ (by omega)

theorem rot_none (s m : Nat) (d : Array α) : Rot s m m d d := by
  refine ⟨rfl, fun t ht => by omega, fun t _ => by rw [show s + (m - m) + t = s + t by omega], fun _ _ => rfl⟩

theorem rot_none' (m e : Nat) (d : Array α) : Rot m m e d d := by
  refine ⟨rfl, fun t _ => rfl, fun t ht => by omega, fun _ _ => rfl⟩

/-- What the four parts of a rotation hold. -/
theorem Rot.at1 {s m e : Nat} {d d' : Array α} (h : Rot s m e d d') {p : Nat} (h1 : s ≤ p) (h2 : p < s + (e - m)) : d'[p]! = d[p + (m - s)]! ∨ m < s := by
  by_cases hms : m < s
  · exact Or.inr hms
  · left
    have := h.2.1 (p - s) (by omega)
    rw [show s + (p - s) = p by omega] at this
    rw [this]; congr 1; omega

theorem Rot.lo {s m e : Nat} {d d' : Array α} (h : Rot s m e d d') (hsm : s ≤ m) {p : Nat} (h1 : s ≤ p) (h2 : p < s + (e - m)) : d'[p]! = d[p + (m - s)]! := by
  rcases h.at1 h1 h2 with h | h
  · exact h
  · omega

theorem Rot.hi {s m e : Nat} {d d' : Array α} (h : Rot s m e d d') {p : Nat} (h1 : s + (e - m) ≤ p) (h2 : p < e) (hme : m ≤ e) : d'[p]! = d[p - (e - m)]! := by
  have := h.2.2.1 (p - (s + (e - m))) (by omega)
  rw [show s + (e - m) + (p - (s + (e - m))) = p by omega] at this
  rw [this]; congr 1; omega

theorem Rot.out {s m e : Nat} {d d' : Array α} (h : Rot s m e d d') {p : Nat} (h1 : p < s ∨ e ≤ p) : d'[p]! = d[p]! := h.2.2.2 p h1

/-- THE ROTATION OF A SYMMETRIC MERGE: all that lies in the lower half is no greater than what lies in the upper one. -/
theorem Rot.merge {lt : α → α → Bool} {K : α → κ} (hS : SWO lt) (hK : ∀ x y, lt x y = true → K x ≠ K y) {a s m e b : Nat} {d d1 : Array α} (h : Rot s m e d d1) (has : a ≤ s) (hsm : s ≤ m) (hme : m ≤ e) (heb : e ≤ b) (hb : b ≤ d.size)
    (hL : SortedIn lt a m d) (hR : SortedIn lt m b d)
    (hlow : a < s → e < b → lt d[e]! d[s - 1]! = false) (hhigh : s < m → m < e → lt d[e - 1]! d[s]! = true) :
    PermIn a b d d1 ∧ Stab K d d1 ∧ SortedIn lt a s d1 ∧ SortedIn lt s (s + (e - m)) d1 ∧ SortedIn lt (s + (e - m)) e d1 ∧ SortedIn lt e b d1 ∧
      (∀ p q, a ≤ p → p < s + (e - m) → s + (e - m) ≤ q → q < b → lt d1[q]! d1[p]! = false) := by
  have hx : ∀ i j, s ≤ i → i < m → m ≤ j → j < e → lt d[j]! d[i]! = true := fun i j h1 h2 h3 h4 => by
    have t := hhigh (by omega) (by omega)
    exact SWO.lt_le hS (SWO.le_lt hS (SortedIn.le hS hR h3 (show j ≤ e - 1 by omega) (by omega)) t) (SortedIn.le hS hL has h1 h2)
  have hy : ∀ i j, a ≤ i → i < s → e ≤ j → j < b → lt d[j]! d[i]! = false := fun i j h1 h2 h3 h4 => by
    have t := hlow (by omega) (by omega)
    exact SWO.le_le hS (SWO.le_le hS (SortedIn.le hS hL h1 (show i ≤ s - 1 by omega) (by omega)) t) (SortedIn.le hS hR hme h3 h4)
  refine ⟨permIn_mono _ _ _ _ _ _ has heb hb (h.perm hsm hme (by omega)), h.stab hsm hme (by omega) (fun i j h1 h2 h3 h4 e => hK _ _ (hx i j h1 h2 h3 h4) e.symm), fun i j h1 h2 h3 => ?_, fun i j h1 h2 h3 => ?_, fun i j h1 h2 h3 => ?_, fun i j h1 h2 h3 => ?_, fun p q h1 h2 h3 h4 => ?_⟩
  · rw [h.out (Or.inl (by omega)), h.out (Or.inl (by omega))]; exact hL i j h1 h2 (by omega)
  · rw [h.lo hsm (by omega) (by omega), h.lo hsm (by omega) (by omega)]; exact hR _ _ (by omega) (by omega) (by omega)
  · rw [h.hi (by omega) (by omega) hme, h.hi (by omega) (by omega) hme]; exact hL _ _ (by omega) (by omega) (by omega)
  · rw [h.out (Or.inr (by omega)), h.out (Or.inr (by omega))]; exact hR i j (by omega) h2 (by omega)
  · by_cases c1 : p < s
    · rw [h.out (p := p) (Or.inl c1)]
      by_cases c2 : q < e
      · rw [h.hi h3 c2 hme]; exact SortedIn.le hS hL h1 (by omega) (by omega)
      · rw [h.out (Or.inr (by omega))]; exact hy p q h1 c1 (by omega) h4
    · rw [h.lo (p := p) hsm (by omega) h2]
      by_cases c2 : q < e
      · rw [h.hi h3 c2 hme]; exact SWO.asymmA hS (hx _ _ (by omega) (by omega) (by omega) (by omega))
      · rw [h.out (Or.inr (by omega))]; exact SortedIn.le hS hR (by omega) (by omega) h4

/-- THE MERGE IS DONE: both halves are sorted, and nothing in the upper one is less than what is in the lower one. -/
theorem sorted_halves {lt : α → α → Bool} {a c b : Nat} {d1 d2 d3 : Array α} (hac : a ≤ c) (hcb : c ≤ b) (hb : b ≤ d1.size)
    (hX : ∀ p q, a ≤ p → p < c → c ≤ q → q < b → lt d1[q]! d1[p]! = false) (p2 : PermIn a c d1 d2) (s2 : SortedIn lt a c d2) (p3 : PermIn c b d2 d3) (s3 : SortedIn lt c b d3) :
    PermIn a b d1 d3 ∧ SortedIn lt a b d3 := by
  have z2 := p2.1
  have hX2 : ∀ q, c ≤ q → q < b → ∀ p, a ≤ p → p < c → lt d2[q]! d2[p]! = false := fun q h1 h2 => by
    rw [p2.2.1 q (Or.inr h1)]
    exact permIn_all d1 d2 a c (fun x => lt d1[q]! x = false) (by omega) p2 (fun p h3 h4 => hX p q h3 h4 h1 h2)
  have hX3 : ∀ p, a ≤ p → p < c → ∀ q, c ≤ q → q < b → lt d3[q]! d3[p]! = false := fun p h1 h2 => by
    rw [p3.2.1 p (Or.inl h2)]
    exact permIn_all d2 d3 c b (fun x => lt x d2[p]! = false) (by omega) p3 (fun q h3 h4 => hX2 q h3 h4 p h1 h2)
  refine ⟨permIn_trans _ _ _ _ _ (permIn_mono _ _ _ _ _ _ (Nat.le_refl _) hcb hb p2) (permIn_mono _ _ _ _ _ _ hac (Nat.le_refl _) (by omega) p3), fun i j h1 h2 h3 => ?_⟩
  by_cases c1 : i < c
  · by_cases c2 : j < c
    · rw [p3.2.1 i (Or.inl c1), p3.2.1 j (Or.inl c2)]; exact s2 i j h1 h2 c2
    · exact hX3 i h1 c1 j (by omega) h3
  · exact s3 i j (by omega) h2 h3

/-- The whole of a merge's general step. -/
theorem Mrg.of_rot {lt : α → α → Bool} {K : α → κ} (hS : SWO lt) (hK : ∀ x y, lt x y = true → K x ≠ K y) {a s m e b : Nat} {d d1 d2 d3 : Array α} (h : Rot s m e d d1) (has : a ≤ s) (hsm : s ≤ m) (hme : m ≤ e) (heb : e ≤ b) (hb : b ≤ d.size)
    (hL : SortedIn lt a m d) (hR : SortedIn lt m b d) (hlow : a < s → e < b → lt d[e]! d[s - 1]! = false) (hhigh : s < m → m < e → lt d[e - 1]! d[s]! = true)
    (m2 : Mrg lt K a (s + (e - m)) d1 d2) (m3 : Mrg lt K (s + (e - m)) b d2 d3) : Mrg lt K a b d d3 := by
  obtain ⟨p1, st1, _, _, _, _, hX⟩ := h.merge (K := K) hS hK has hsm hme heb hb hL hR hlow hhigh
  obtain ⟨p2, s2, st2⟩ := m2
  obtain ⟨p3, s3, st3⟩ := m3
  obtain ⟨p, s⟩ := sorted_halves (by omega) (by omega) (by rw [h.1]; exact hb) hX p2 s2 p3 s3
  exact ⟨permIn_trans _ _ _ _ _ p1 p, s, st1.trans (st2.trans st3)⟩

/-- A merge of parts one of which is empty, or that lie in order already, changes nothing. -/
theorem Mrg.none {lt : α → α → Bool} {K : α → κ} {a b : Nat} {d : Array α} (h : SortedIn lt a b d) : Mrg lt K a b d d := ⟨permIn_refl _ _ _, h, Stab.refl K d⟩

/-- The first small case: one element on the left. -/
theorem Mrg.one_left {lt : α → α → Bool} {K : α → κ} (hS : SWO lt) (hK : ∀ x y, lt x y = true → K x ≠ K y) {a i b : Nat} {d d' : Array α} (h : Rot a (a + 1) i d d') (hi : a + 1 ≤ i) (hib : i ≤ b) (hb : b ≤ d.size) (hR : SortedIn lt (a + 1) b d)
    (hlo : a + 1 < i → lt d[i - 1]! d[a]! = true) (hhi : i < b → lt d[i]! d[a]! = false) : Mrg lt K a b d d' := by
  have hL : SortedIn lt a (a + 1) d := fun i j h1 h2 h3 => by omega
  obtain ⟨p1, st1, _, s2, _, s4, hX⟩ := h.merge (K := K) hS hK (Nat.le_refl _) (by omega) hi hib hb hL hR (fun h => by omega) (fun _ h => hlo h)
  refine ⟨p1, fun p q h1 h2 h3 => ?_, st1⟩
  have e1 : a + (i - (a + 1)) = i - 1 := by omega
  rw [e1] at s2 hX
  by_cases c1 : p < i - 1
  · by_cases c2 : q < i - 1
    · exact s2 p q h1 h2 c2
    · exact hX p q h1 c1 (by omega) h3
  · by_cases c3 : p = i - 1
    · rw [h.out (p := q) (Or.inr (by omega)), h.hi (p := p) (by omega) (by omega) hi, show p - (i - (a + 1)) = a by omega]
      exact SWO.le_le hS (hhi (by omega)) (SortedIn.le hS hR (by omega) (show i ≤ q by omega) h3)
    · exact s4 p q (by omega) h2 h3

/-- The second small case: one element on the right. -/
theorem Mrg.one_right {lt : α → α → Bool} {K : α → κ} (hS : SWO lt) (hK : ∀ x y, lt x y = true → K x ≠ K y) {a i m : Nat} {d d' : Array α} (h : Rot i m (m + 1) d d') (hai : a ≤ i) (him : i ≤ m) (hb : m + 1 ≤ d.size) (hL : SortedIn lt a m d)
    (hlo : a < i → lt d[m]! d[i - 1]! = false) (hhi : i < m → lt d[m]! d[i]! = true) : Mrg lt K a (m + 1) d d' := by
  have hR : SortedIn lt m (m + 1) d := fun i j h1 h2 h3 => by omega
  obtain ⟨p1, st1, s1, _, s3, _, hX⟩ := h.merge (K := K) hS hK hai him (by omega) (Nat.le_refl _) hb hL hR (fun _ h => by omega) (fun h _ => by rw [show m + 1 - 1 = m by omega]; exact hhi h)
  rw [show i + (m + 1 - m) = i + 1 by omega] at s3 hX
  refine ⟨p1, fun p q h1 h2 h3 => ?_, st1⟩
  by_cases c1 : i + 1 ≤ q
  · by_cases c2 : i + 1 ≤ p
    · exact s3 p q c2 h2 h3
    · exact hX p q h1 (by omega) c1 h3
  · by_cases c3 : q = i
    · rw [h.lo (p := q) him (by omega) (by omega), h.out (p := p) (Or.inl (by omega)), show q + (m - i) = m by omega]
      exact SWO.le_le hS (SortedIn.le hS hL h1 (show p ≤ i - 1 by omega) (by omega)) (hlo (by omega))
    · exact s1 p q h1 h2 (by omega)

end Go.Proofs.YtfcjnoojcajljaaGreatDoor

/-
  The contracts of byName, and of slices.SortStableFunc over it where there are fewer than 20 fields.
-/
namespace Go.Proofs.YtfcjnoojcajljaaGreatDoor
open Go.RowKit Go.Sort Go.Lib

def cmpF (x y : Fx) : Int := Lib.compareBytes x.name.data.toList y.name.data.toList
theorem ltF (x y : Fx) : ltOf cmpF x y = decide (Lib.compareBytes x.name.data.toList y.name.data.toList < 0) := rfl

theorem swoF : SWO (ltOf cmpF) where
  irrefl x := by rw [ltF, (cb_zero _ _).2 rfl]; rfl
  trans x y z h1 h2 := by
    rw [ltF, decide_eq_true_iff] at *
    exact cb_lt_trans _ _ _ h1 h2
  ntrans x y z h1 h2 := by
    rw [ltF, decide_eq_false_iff_not] at *
    intro h
    have n1 := cb_neg x.name.data.toList y.name.data.toList
    have n2 := cb_neg y.name.data.toList z.name.data.toList
    rcases cb_range y.name.data.toList x.name.data.toList with h3 | h3 | h3
    · have h4 := cb_lt_trans _ _ _ (show Lib.compareBytes y.name.data.toList x.name.data.toList < 0 by omega) h
      exact h2 h4
    · have e := (cb_zero _ _).1 h3
      rw [e] at h2
      exact h2 h
    · omega

theorem ltF_ne (x y : Fx) (h : ltOf cmpF x y = true) : x.name ≠ y.name := by
  rw [ltF, decide_eq_true_iff] at h
  intro e
  rw [e, cb_self] at h
  omega

theorem encX_one (x : Fx) : ∀ v ∈ encX x, v.oneCell' = true := fun v hv => by simp [encX] at hv; rcases hv with rfl | rfl <;> rfl

/-- What a stable sort leaves. -/
def Sorts (w : World) (blk off : Nat) (d : Array Fx) (w' : World) : Prop :=
  ∃ d' n os, PermIn 0 d.size d d' ∧ SortedIn (ltOf cmpF) 0 d.size d' ∧ Stab Fx.name d d' ∧ w' = sortWorldK encX 2 w blk off n d' os

end Go.Proofs.YtfcjnoojcajljaaGreatDoor

/-
  Fields of one name taken as one: the plain mathematics, and the memory that joined works on.
-/
namespace Go.Proofs.YtfcjnoojcajljaaGreatDoor
open Go.RowKit Go.Sort Go.Lib

/-- One field more: its texts behind those of the last field, if that has its name. -/
def joinStep (o : List Fld) (f : Fld) : List Fld :=
  match o.getLast? with
  | some l => if l.1 = f.1 then o.dropLast ++ [(l.1, l.2 ++ f.2)] else o ++ [f]
  | none => [f]
def joinS (fs : List Fld) : List Fld := fs.foldl joinStep []
def totF (fs : List Fld) : Nat := (fs.map fun f => f.2.length).sum

theorem joinStep_nil (f : Fld) : joinStep [] f = [f] := rfl
theorem joinStep_same (o : List Fld) (l f : Fld) (h : l.1 = f.1) : joinStep (o ++ [l]) f = o ++ [(l.1, l.2 ++ f.2)] := by
  simp [joinStep, h]
theorem joinStep_other (o : List Fld) (l f : Fld) (h : l.1 ≠ f.1) : joinStep (o ++ [l]) f = o ++ [l] ++ [f] := by
  simp [joinStep, h]
theorem joinS_snoc (fs : List Fld) (f : Fld) : joinS (fs ++ [f]) = joinStep (joinS fs) f := by simp [joinS]

theorem totF_append (a b : List Fld) : totF (a ++ b) = totF a + totF b := by simp [totF]
theorem totF_one (f : Fld) : totF [f] = f.2.length := by simp [totF]
theorem totF_step (o : List Fld) (f : Fld) : totF (joinStep o f) = totF o + f.2.length := by
  rcases List.eq_nil_or_concat o with rfl | ⟨o', l, rfl⟩
  · rw [joinStep_nil, totF_one]; simp [totF]
  · rw [List.concat_eq_append]
    by_cases h : l.1 = f.1
    · rw [joinStep_same _ _ _ h, totF_append, totF_append, totF_one, totF_one, List.length_append]; omega
    · rw [joinStep_other _ _ _ h, totF_append, totF_one]
theorem totF_joinS (fs : List Fld) : totF (joinS fs) = totF fs := by
  have : ∀ (l o : List Fld), totF (l.foldl joinStep o) = totF o + totF l := by
    intro l
    induction l with
    | nil => intro o; simp [totF]
    | cons f l ih =>
      intro o
      rw [List.foldl_cons, ih, totF_step]
      have : totF (f :: l) = f.2.length + totF l := by simp [totF]
      omega
  have h := this fs []
  simpa [joinS, totF] using h
theorem joinStep_len (o : List Fld) (f : Fld) : (joinStep o f).length ≤ o.length + 1 := by
  rcases List.eq_nil_or_concat o with rfl | ⟨o', l, rfl⟩
  · simp [joinStep_nil]
  · rw [List.concat_eq_append]
    by_cases h : l.1 = f.1
    · rw [joinStep_same _ _ _ h]; simp
    · rw [joinStep_other _ _ _ h]; simp
theorem joinS_len (fs : List Fld) : (joinS fs).length ≤ fs.length := by
  have : ∀ (l o : List Fld), (l.foldl joinStep o).length ≤ o.length + l.length := by
    intro l
    induction l with
    | nil => intro o; simp
    | cons f l ih =>
      intro o
      rw [List.foldl_cons, List.length_cons]
      have h1 := ih (joinStep o f)
      have h2 := joinStep_len o f
      omega
  have h := this fs []
  simpa [joinS] using h
theorem totF_mem {fs : List Fld} {f : Fld} (h : f ∈ fs) : f.2.length ≤ totF fs := by
  obtain ⟨a, b, rfl⟩ := List.append_of_mem h
  have : totF (a ++ f :: b) = totF a + (f.2.length + totF b) := by simp [totF]
  omega

/-- The rows of texts of unlike fields are unlike rows. -/
def Apart (o : List Fx) : Prop := o.Pairwise fun x y => x.sl.ownBlock = none ∨ x.sl.ownBlock ≠ y.sl.ownBlock
def OwnJ (N : Nat) (w : World) (v : Value) (o : List Fx) : Prop := OwnXs N w v o ∧ Apart o

theorem OwnJ.on {N : Nat} {w w' : World} {v : Value} {o : List Fx} (h : OwnJ N w v o) (hb : Below w.heap.size w w') : OwnJ N w' v o := ⟨h.1.on hb, h.2⟩

theorem apart_snoc {o : List Fx} {x : Fx} (h : Apart o) (hx : ∀ y ∈ o, y.sl.ownBlock = none ∨ y.sl.ownBlock ≠ x.sl.ownBlock) : Apart (o ++ [x]) := by
  unfold Apart
  rw [List.pairwise_append]
  exact ⟨h, List.pairwise_singleton _ _, fun a ha b hb => by rw [List.mem_singleton] at hb; subst hb; exact hx a ha⟩

theorem apart_init {o : List Fx} {x : Fx} (h : Apart (o ++ [x])) : Apart o ∧ ∀ y ∈ o, y.sl.ownBlock = none ∨ y.sl.ownBlock ≠ x.sl.ownBlock := by
  unfold Apart at h
  rw [List.pairwise_append] at h
  exact ⟨h.1, fun y hy => h.2.2 y hy x (by simp)⟩

/-- A row of bytes, texts or fields, by what it is a row of. -/
theorem own_type {w : World} {n0 : Nat} {e : TypeId} {size : Nat} {v : Value} {n : Nat} {xs : List Value} {k : Nat} (h : w.ownsRow n0 e size v n xs) (hk : v.ownBlock = some k) : ∃ cs, w.heap[k]? = some (.cells cs e (0, 0)) := by
  rcases h.2 with ⟨rfl, _⟩ | ⟨g, cap, cur, rfl, _, hg, _⟩
  · cases hk
  · have : g = k := by simpa [Value.ownBlock] using hk
    subst this
    exact ⟨cur, hg⟩

/-- Whatever row of another kind stands while texts are appended. -/
theorem own_else {w w' : World} {n0 m0 : Nat} {e e' : TypeId} {size size' : Nat} {v u : Value} {n m : Nat} {xs ys : List Value} (h : w.ownsRow n0 e size v n xs) (hu : w.ownsRow m0 e' size' u m ys) (hne : e ≠ e') (hg : w.grownBy w' u.ownBlock) : w'.ownsRow n0 e size v n xs := by
  refine h.kept hg ?_
  rcases hv : v.ownBlock with _ | k
  · exact Or.inl rfl
  · right
    intro e2
    obtain ⟨cs, h1⟩ := own_type h hv
    obtain ⟨cs', h2⟩ := own_type hu e2.symm
    rw [h1] at h2
    injection h2 with h2
    injection h2 with _ h2
    exact hne h2

/-- The last field's texts have grown: what its row, and the rows of the others, are now. -/
theorem joined_grown {N : Nat} {w w4 : World} {o : List Fx} {x : Fx} {ts : List ByteArray} {g cap go cp : Nat} (h : OwnJ N w (.slice (some ⟨go, 0, none⟩) (o.length + 1) cp) (o ++ [x]))
    (hown : w4.ownsRow N 9 1 (.slice (some ⟨g, 0, none⟩) (x.txt.length + ts.length) cap) (x.txt.length + ts.length) (x.txt.map Value.string ++ ts.map Value.string))
    (hg : w.grownBy w4 x.sl.ownBlock) (hat : x.sl.ownBlock = some g ∨ g = w.heap.size) :
    w4.cell? ⟨go, o.length * 2 + 1, none⟩ = some x.sl ∧ w4.frozen? ⟨go, o.length * 2 + 1, none⟩ = false ∧
      OwnJ N (w4.setCell ⟨go, o.length * 2 + 1, none⟩ (.slice (some ⟨g, 0, none⟩) (x.txt.length + ts.length) cap)) (.slice (some ⟨go, 0, none⟩) (o.length + 1) cp) (o ++ [⟨x.name, some ⟨g, 0, none⟩, cap, x.txt ++ ts⟩]) := by
  obtain ⟨⟨hrow, htx⟩, hap⟩ := h
  obtain ⟨hap1, hap2⟩ := apart_init hap
  have hx := htx x (by simp)
  have hrow4 : w4.ownsRow N 43 2 (.slice (some ⟨go, 0, none⟩) (o.length + 1) cp) (o ++ [x]).length (cellsX (o ++ [x])) := own_else hrow hx (by decide) hg
  have hlen : (o ++ [x]).length = o.length + 1 := by simp
  rw [hlen] at hrow4
  have hget := cellsX_get (o ++ [x]) o.length (by simp)
  simp only [List.getElem_concat_length] at hget
  have c1 : w4.cell? ⟨go, o.length * 2 + 1, none⟩ = some x.sl := by rw [hrow4.cellAt _ (by omega)]; exact hget.2
  refine ⟨c1, hrow4.frozenAt _, ⟨?_, ?_⟩, ?_⟩
  · have hst := hrow4.stored (o.length * 2 + 1) (.slice (some ⟨g, 0, none⟩) (x.txt.length + ts.length) cap)
    have e1 : (cellsX (o ++ [x])).set (o.length * 2 + 1) (.slice (some ⟨g, 0, none⟩) (x.txt.length + ts.length) cap) = cellsX (o ++ [⟨x.name, some ⟨g, 0, none⟩, cap, x.txt ++ ts⟩]) := by
      rw [cellsX_append, cellsX_append, List.set_append_right _ _ (by rw [cellsX_len]; omega), cellsX_len]
      simp [cellsX, encX, Fx.sl]
    rw [e1] at hst
    rw [List.length_append]
    exact hst.1
  · intro y hy
    have hset : w4.grownBy (w4.setCell ⟨go, o.length * 2 + 1, none⟩ (.slice (some ⟨g, 0, none⟩) (x.txt.length + ts.length) cap)) (Value.slice (some ⟨go, 0, none⟩) (o.length + 1) cp).ownBlock := grown_set w4 go _ _
    rw [List.mem_append, List.mem_singleton] at hy
    rcases hy with hy | rfl
    · have hy0 := htx y (by simp [hy])
      have hy4 : w4.ownsRow N 9 1 y.sl y.txt.length (y.txt.map Value.string) := hy0.kept hg (hap2 y hy)
      exact own_else hy4 hrow4 (by decide) hset
    · have : w4.ownsRow N 9 1 (.slice (some ⟨g, 0, none⟩) (x.txt.length + ts.length) cap) (x.txt ++ ts).length ((x.txt ++ ts).map Value.string) := by
        rw [List.length_append, List.map_append]; exact hown
      show World.ownsRow _ N 9 1 (.slice (some ⟨g, 0, none⟩) (x.txt ++ ts).length cap) (x.txt ++ ts).length ((x.txt ++ ts).map Value.string)
      rw [List.length_append] at this ⊢
      exact own_else this hrow4 (by decide) hset
  · refine apart_snoc hap1 fun y hy => ?_
    have hy0 := htx y (by simp [hy])
    show y.sl.ownBlock = none ∨ y.sl.ownBlock ≠ some g
    rcases hat with hat | hat
    · rw [← hat]; exact hap2 y hy
    · rcases hb : y.sl.ownBlock with _ | k
      · exact Or.inl rfl
      · right
        have := (World.ownsRow.lt hy0 k hb).2
        intro e
        simp at e; omega

end Go.Proofs.YtfcjnoojcajljaaGreatDoor
