/-
  The contract of SameKeys.
-/
import Derived.Test.YtgpeaepmkincaaaKrow
namespace Go.Proofs.Ytgpeaepmkincaaa
open Go.RowKit

theorem eqK_iff (x y : ByteArray × ByteArray) : eqK x.1 x.2 y.1 y.2 = decide (x = y) := by
  unfold eqK
  rw [Lib.toList_data, Lib.toList_data, Lib.toList_data, Lib.toList_data, Bool.eq_iff_iff, decide_eq_true_iff]
  obtain ⟨⟨⟨a⟩⟩, ⟨⟨b⟩⟩⟩ := x
  obtain ⟨⟨⟨c⟩⟩, ⟨⟨d⟩⟩⟩ := y
  simp

set_option maxHeartbeats 1000000 in
theorem same_any (v1 v2 : Value) (d1 d2 : List (ByteArray × ByteArray)) (w : World) (h1 : IsKeys w v1 d1) (h2 : IsKeys w v2 d2) (hl1 : d1.length ≤ maxLen) (hl2 : d2.length ≤ maxLen) :
    Calls Try.prog 27 #[v1, v2] w fun e w' => e = .returned (.bool (decide (d1 = d2))) ∧ ∃ n, w' = w.drewN n := by
  unfold maxLen at hl1 hl2
  obtain ⟨p1, c1, rfl, k1⟩ := h1
  obtain ⟨p2, c2, rfl, k2⟩ := h2
  by_cases hl : d1.length = d2.length
  · have hb : ((d1.length : Int) != (d2.length : Int)) = false := by simp [hl]
    rcases k1 with rfl | ⟨b1, o1, rfl, k1⟩
    · have hd : d2 = [] := by
        cases d2 with
        | nil => rfl
        | cons _ _ => simp at hl
      subst hd
      go_enter Try.func27, Try.ntmps27
      go_wp2
      refine wp_loop_rounds 1 ?_
      rw [rounds_succ]
      go_wp2
      go_ret
      exact ⟨rfl, 0, rfl⟩
    · rcases k2 with rfl | ⟨b2, o2, rfl, k2⟩
      · have hd : d1 = [] := by
          cases d1 with
          | nil => rfl
          | cons _ _ => simp at hl
        subst hd
        go_enter Try.func27, Try.ntmps27
        go_wp2
        refine wp_loop_rounds 1 ?_
        rw [rounds_succ]
        go_wp2
        go_ret
        exact ⟨rfl, 0, rfl⟩
      · have HL := hid hl
        have K1 := hid k1
        have K2 := hid k2
        clear hl k1 k2
        go_enter Try.func27, Try.ntmps27
        go_wp2
        go_loopw [5] (fun i wr => ∃ k q : Nat, k ≤ d1.length ∧ i = .int .i64 k ∧ wr = w.drewN q ∧ ∀ j, (hj : j < k) → d1[j]? = d2[j]?) (fun i _ => d1.length - (intOf i).toNat)
        case atStart => exact ⟨0, 0, by omega, rfl, rfl, fun j hj => by omega⟩
        case round =>
          obtain ⟨k, q, hk, rfl, rfl, hall⟩ := hrel
          have HA := hid hall
          clear hall
          by_cases hlt : k < d1.length
          · have hlt2 : k < d2.length := by rw [← HL.out]; exact hlt
            obtain ⟨e1, e2⟩ := K1.out k hlt
            obtain ⟨f1, f2⟩ := K2.out k hlt2
            have hne := fun W => neq_key d1[k].1 d1[k].2 d2[k].1 d2[k].2 W
            rw [eqK_iff] at hne
            have HG : Hid (d1[k]? = some d1[k] ∧ d2[k]? = some d2[k]) := ⟨List.getElem?_eq_getElem hlt, List.getElem?_eq_getElem hlt2⟩
            generalize d1[k] = x at *
            generalize d2[k] = y at *
            obtain ⟨x1, x2⟩ := x
            obtain ⟨y1, y2⟩ := y
            have i1 : (0 : Int) ≤ ↑k := by omega
            have i2 : (↑k : Int) < ↑d1.length := by omega
            have i3 : (↑k : Int) < ↑d2.length := by omega
            by_cases hxy : (x1, x2) = (y1, y2)
            · have hd : decide ((x1, x2) = (y1, y2)) = true := by simp [hxy]
              rw [hd] at hne
              have HX := hid hxy
              clear hxy hd
              go_wp2_with fail
              go_quiet (fail)
              go_wp2_with fail
              refine ⟨⟨k + 1, _, by omega, by go_num, rfl, fun j hj => ?_⟩, by simp [intOf]; omega⟩
              by_cases hjk : j = k
              · subst hjk; rw [HG.out.1, HG.out.2, HX.out]
              · exact HA.out j (by omega)
            · have hd : decide ((x1, x2) = (y1, y2)) = false := by simpa using hxy
              rw [hd] at hne
              have HX := hid hxy
              clear hxy hd
              go_wp2_with fail
              go_quiet (fail)
              go_wp2_with fail
              go_ret
              refine ⟨ret_bool ?_, q + nq, by simp⟩
              symm
              rw [decide_eq_false_iff_not]
              intro he
              apply HX.out
              have := HG.out.1
              rw [he, HG.out.2] at this
              exact (Option.some.inj this).symm
          · go_wp2
            go_ret
            refine ⟨ret_bool ?_, _, rfl⟩
            symm
            rw [decide_eq_true_iff]
            apply List.ext_getElem?
            intro j
            by_cases hj : j < k
            · exact HA.out j hj
            · have := HL.out
              rw [List.getElem?_eq_none (by omega), List.getElem?_eq_none (by omega)]
  · have hb : ((d1.length : Int) != (d2.length : Int)) = true := by rw [bne_iff_ne]; omega
    have hd : decide (d1 = d2) = false := by
      rw [decide_eq_false_iff_not]; rintro rfl; exact hl rfl
    have HD := hid hd
    clear hl k1 k2 hd
    go_enter Try.func27, Try.ntmps27
    go_wp2
    go_ret
    exact ⟨ret_bool HD.out.symm, 0, rfl⟩

end Go.Proofs.Ytgpeaepmkincaaa
