/-
  slices.Compact at keys, whatever their number.
-/
import Derived.Test.YtgpeaepmkincaaaSame
import Derived.Lib.SlicesCompact
import Derived.Deep.LoopGhost
namespace Go.Proofs.Ytgpeaepmkincaaa
open Go.RowKit Go.Lib

theorem toArray_get! (d : List (ByteArray × ByteArray)) (i : Nat) (h : i < d.length) : d.toArray[i]! = d[i] := by
  rw [getElem!_pos d.toArray i (by simpa using h)]; simp

theorem own_at {w : World} {base g n cap : Nat} {dk : Array (ByteArray × ByteArray)} (h : Own w base (.slice (some ⟨g, 0, none⟩) n cap) dk.toList) (i : Nat) (hi : i < dk.size) :
    w.cell? ⟨g, i * 2, none⟩ = some (.string dk[i]!.1) ∧ w.cell? ⟨g, i * 2 + 1, none⟩ = some (.string dk[i]!.2) ∧ w.frozen? ⟨g, i * 2, none⟩ = false ∧ w.frozen? ⟨g, i * 2 + 1, none⟩ = false := by
  obtain ⟨rfl, hk⟩ := h.keysAt
  have := hk i (by simpa using hi)
  rw [Nat.zero_add] at this
  have e : dk.toList[i]'(by simpa using hi) = dk[i]! := by rw [getElem!_pos dk i hi]; simp
  rw [e] at this
  exact ⟨this.1, this.2, World.ownsRow.frozenAt h _, World.ownsRow.frozenAt h _⟩

theorem own_frozen {w : World} {base g n cap : Nat} {d : List (ByteArray × ByteArray)} (h : Own w base (.slice (some ⟨g, 0, none⟩) n cap) d) (j : Nat) : w.frozen? ⟨g, j, none⟩ = false := by
  obtain ⟨rfl, _⟩ := h.keysAt
  exact World.ownsRow.frozenAt h j
theorem own_some {w : World} {base g n cap : Nat} {d : List (ByteArray × ByteArray)} (h : Own w base (.slice (some ⟨g, 0, none⟩) n cap) d) (j : Nat) (hj : j < d.length * 2) : (w.cell? ⟨g, j, none⟩).isSome = true := by
  obtain ⟨rfl, _⟩ := h.keysAt
  rw [World.ownsRow.cellAt h j hj, List.getElem?_eq_getElem (by rw [cellsL_length]; exact hj)]
  rfl

theorem own_store {w : World} {base g n cap : Nat} {dk : Array (ByteArray × ByteArray)} (h : Own w base (.slice (some ⟨g, 0, none⟩) n cap) dk.toList) (i : Nat) (hi : i < dk.size) (a b : ByteArray) :
    Own ((w.setCell ⟨g, i * 2, none⟩ (.string a)).setCell ⟨g, i * 2 + 1, none⟩ (.string b)) base (.slice (some ⟨g, 0, none⟩) n cap) (dk.setIfInBounds i (a, b)).toList := by
  obtain ⟨rfl, _⟩ := h.keysAt
  have h1 := (World.ownsRow.stored h (i * 2) (.string a)).1
  have h2 := (World.ownsRow.stored h1 (i * 2 + 1) (.string b)).1
  rw [cellsL_set _ _ _ _ (by simpa using hi)] at h2
  unfold Own
  simpa using h2

theorem own_cut {w : World} {base g n cap : Nat} {xs : List Value} (h : w.ownsRow base 26 2 (.slice (some ⟨g, 0, none⟩) n cap) n xs) (k : Nat) (hk : k ≤ n) :
    w.ownsRow base 26 2 (.slice (some ⟨g, 0, none⟩) k cap) k (xs.take (k * 2)) := by
  obtain ⟨hl, h' | ⟨g', cap', cur, h', hb, hg, hnc, hcm, hcs, ht⟩⟩ := h
  · simp at h'
  · simp only [Value.slice.injEq, Option.some.injEq, Addr.mk.injEq, and_true, true_and] at h'
    obtain ⟨rfl, rfl⟩ := h'
    refine ⟨by rw [List.length_take, hl]; omega, .inr ⟨g, cap, cur, rfl, hb, hg, by omega, hcm, hcs, ?_⟩⟩
    rw [← ht, List.take_take, Nat.min_eq_left (by omega)]

theorem own_setCells {base g k cap : Nat} {xs : List Value} : ∀ (vs : List Value) (o : Nat) (w : World), k * 2 ≤ o → w.ownsRow base 26 2 (.slice (some ⟨g, 0, none⟩) k cap) k xs →
    (w.setCells g o vs).ownsRow base 26 2 (.slice (some ⟨g, 0, none⟩) k cap) k xs
  | [], _, _, _, h => h
  | v :: vs, o, w, ho, h => by
    unfold World.setCells
    refine own_setCells vs (o + 1) _ (by omega) ?_
    have := (World.ownsRow.stored h o v).1
    rwa [List.set_eq_of_length_le (by rw [h.1]; omega)] at this

theorem comp_done {d : List (ByteArray × ByteArray)} {kk : Nat} {dk : Array (ByteArray × ByteArray)} (hI : CompInv d.toArray d.length kk dk) : compact d = dk.toList.take kk := by
  have hs : dk.size = d.length := by simpa using hI.size
  have hlt := hI.lt
  unfold compact
  apply List.ext_getElem?
  intro j
  by_cases hj : j < kk
  · rw [hI.low j hj, List.getElem?_take_of_lt hj, List.getElem?_eq_getElem (by simp; omega), getElem!_pos dk j (by omega)]
    simp
  · rw [List.getElem?_eq_none (by rw [hI.len]; omega), List.getElem?_eq_none (by rw [List.length_take]; omega)]

set_option maxHeartbeats 2000000 in
theorem compact_own (g cap base : Nat) (d : List (ByteArray × ByteArray)) (w : World) (hown : Own w base (.slice (some ⟨g, 0, none⟩) d.length cap) d) (hcap : d.length ≤ cap) (hm : cap ≤ maxLen) :
    Calls Try.prog 43 #[.slice (some ⟨g, 0, none⟩) d.length cap] w fun e w' =>
      e = .returned (.slice (some ⟨g, 0, none⟩) (compact d).length cap) ∧ Own w' base (.slice (some ⟨g, 0, none⟩) (compact d).length cap) (compact d) ∧ Below g w w' := by
  unfold maxLen at hm
  have HO := hid hown
  clear hown
  have hsame : (∀ j, j < d.length → keeps d.toArray j = true) → compact d = d := compact_all d
  have HS := hid hsame
  clear hsame
  have heq := fun a b c d w => eql_key a b c d w
  have hneq := fun a b c d w => neq_key a b c d w
  by_cases h2 : d.length < 2
  · have h2' : (d.length : Int) < 2 := by omega
    go_enter Try.func43, Try.ntmps43
    go_wp2
    go_ret
    have e := HS.out (fun j hj => keeps_lt_one _ j (by omega))
    rw [e]
    exact ⟨rfl, HO.out, Below.refl _ _⟩
  · have h2' : ¬ (d.length : Int) < 2 := by omega
    go_enter Try.func43, Try.ntmps43
    go_wp2
    go_loopg [3] d.length (fun gh s3 wr => ∃ k q : Nat, 1 ≤ k ∧ k ≤ d.length ∧ d.length - k ≤ gh ∧ s3 = .int .i64 k ∧ wr = w.drewN q ∧ ∀ j, j < k → keeps d.toArray j = true)
    case atStart => exact ⟨1, 0, Nat.le_refl _, by omega, by omega, rfl, rfl, keeps_lt_one _⟩
    case round =>
      obtain ⟨k, q, hk1, hk, hg, rfl, rfl, hall⟩ := hrel
      have HA := hid hall
      clear hall
      by_cases hlt : k < d.length
      · have hD : d = d.toArray.toList := by simp
        have ho' : Own w base (.slice (some ⟨g, 0, none⟩) d.length cap) d.toArray.toList := by rw [← hD]; exact HO.out
        obtain ⟨a1, a2, _, _⟩ := own_at ho' k (by simpa using hlt)
        obtain ⟨p1, p2, _, _⟩ := own_at ho' (k - 1) (by simp; omega)
        have HV : Hid (d.toArray[k]! = d.toArray[k]! ∧ d.toArray[k - 1]! = d.toArray[k - 1]!) := ⟨rfl, rfl⟩
        have HO' := hid ho'
        clear ho' hD
        have hx : ∃ x y, d.toArray[k]! = x ∧ d.toArray[k - 1]! = y := ⟨_, _, rfl, rfl⟩
        obtain ⟨⟨x1, x2⟩, ⟨y1, y2⟩, ex, ey⟩ := hx
        rw [ex] at a1 a2
        rw [ey] at p1 p2
        have HE := hid (And.intro ex ey)
        clear ex ey HV
        have i1 : (0 : Int) ≤ ↑k - 1 := by omega
        have i2 : (↑k : Int) < ↑d.length := by omega
        have i3 : (↑k - 1 : Int) < ↑d.length := by omega
        by_cases hdup : (x1, x2) = (y1, y2)
        · obtain ⟨rfl, rfl⟩ := Prod.mk.inj hdup
          have hk2 := eqK_self x1 x2
          go_wp2_with fail
          go_quiet (fail)
          go_wp2_with fail
          have hstart : CompInv d.toArray (k + 1) k d.toArray := CompInv.start HA.out (keeps_neg (by omega) (by rw [HE.out.1, HE.out.2]))
          have HST := hid hstart
          clear hstart a1 a2 p1 p2 i1 i2 i3 hk2
          go_loopg [3, 5] d.length (fun gh s3 s5 wr => ∃ (kk k2 : Nat) (dk : Array (ByteArray × ByteArray)), s3 = .int .i64 kk ∧ s5 = .int .i64 k2 ∧ 1 ≤ k2 ∧ k + k2 ≤ d.length ∧ d.length - (k + k2) ≤ gh ∧ Own wr base (.slice (some ⟨g, 0, none⟩) d.length cap) dk.toList ∧ Below g w wr ∧ CompInv d.toArray (k + k2) kk dk)
          case atStart => exact ⟨k, 1, d.toArray, rfl, rfl, Nat.le_refl _, by omega, by omega, HO'.out, below_drewN (Below.refl _ _) _, HST.out⟩
          case round =>
            obtain ⟨kk, k2, dk, rfl, rfl, h1, hle, hg2, ho2, hb2, hI⟩ := hrel
            have hkk := hI.lt
            have hds : dk.size = d.length := by simpa using hI.size
            have HI := hid hI
            have HO2 := hid ho2
            have HB2 := hid hb2
            by_cases hlt2 : k + k2 < d.length
            · obtain ⟨a1, a2, _, _⟩ := own_at ho2 (k + k2) (by omega)
              obtain ⟨p1, p2, _, _⟩ := own_at ho2 (k + k2 - 1) (by omega)
              obtain ⟨b1, b2, b3, b4⟩ := own_at ho2 kk (by omega)
              rw [hI.high (k + k2) (by omega), show (k + k2) * 2 = k * 2 + k2 * 2 by omega] at a1 a2
              rw [hI.high (k + k2 - 1) (by omega), show (k + k2 - 1) * 2 = k * 2 + (k2 - 1) * 2 by omega] at p1 p2
              have hx : ∃ x y, d.toArray[k + k2]! = x ∧ d.toArray[k + k2 - 1]! = y := ⟨_, _, rfl, rfl⟩
              obtain ⟨⟨u1, u2⟩, ⟨v1, v2⟩, ex, ey⟩ := hx
              rw [ex] at a1 a2
              rw [ey] at p1 p2
              have HU := hid (And.intro ex ey)
              clear ex ey ho2 hb2 hI
              generalize dk[kk]!.1 = o1 at *
              generalize dk[kk]!.2 = o2 at *
              have i1 : (0 : Int) ≤ ↑k2 - 1 := by omega
              have i2 : (↑k2 : Int) < ↑(d.length - k) := by omega
              have i3 : (↑k2 - 1 : Int) < ↑(d.length - k) := by omega
              by_cases huv : (u1, u2) = (v1, v2)
              · obtain ⟨rfl, rfl⟩ := Prod.mk.inj huv
                have hk2 := eqK_self u1 u2
                go_wp2_with fail
                go_quiet (fail)
                go_wp2_with fail
                go_roundg (d.length - (k + (k2 + 1)))
                case measure => omega
                case rel => exact ⟨kk, k2 + 1, dk, rfl, by go_num, by omega, by omega, Nat.le_refl _, HO2.out, below_drewN HB2.out _, HI.out.skip (keeps_neg (by omega) (by rw [HU.out.1, HU.out.2]))⟩
              · have hk2 : eqK u1 u2 v1 v2 = false := by rw [eqK_iff (u1, u2) (v1, v2)]; simpa using huv
                have HN := hid huv
                clear huv
                go_wp2_with fail
                go_quiet (fail)
                go_wp2_with fail
                go_roundg (d.length - (k + (k2 + 1)))
                case measure => omega
                case rel =>
                  refine ⟨kk + 1, k2 + 1, dk.setIfInBounds kk (u1, u2), by go_num, by go_num, by omega, by omega, Nat.le_refl _, own_store HO2.out kk (by omega) u1 u2, below_drewN ((HB2.out.setCell (Nat.le_refl _) _).setCell (Nat.le_refl _) _) _, ?_⟩
                  have := HI.out.keep (by simpa using hlt2) (keeps_pos (by rw [HU.out.1, HU.out.2]; exact HN.out))
                  rwa [HU.out.1] at this
            · have hend : k + k2 = d.length := by omega
              have hcl : ∀ ty, (Builtin.clear_ #[31] ty #[.slice (some ⟨g, kk * 2, none⟩) (d.length - kk) (cap - kk)]).run Try.prog wr = .ok (.tuple #[]) (wr.setCells g (kk * 2) (List.replicate ((d.length - kk) * 2) (.string ⟨#[]⟩))) := by
                intro ty
                refine run_clear_key wr ty g (kk * 2) (d.length - kk) (cap - kk) (by omega) ?_ ?_
                · intro j hj
                  exact own_some ho2 _ (by rw [Array.length_toList]; omega)
                · intro j _
                  exact own_frozen ho2 _
              generalize hz : List.replicate ((d.length - kk) * 2) (Value.string ⟨#[]⟩) = zs at hcl
              have hdone : compact d = dk.toList.take kk := by
                rw [hend] at hI
                exact comp_done hI
              have HD := hid hdone
              clear hz hdone hI ho2 hb2
              have hlen0 : ¬ k + k2 < d.length := hlt2
              go_wp2_with fail
              go_ret
              have hlk : (compact d).length = kk := by rw [HD.out, List.length_take, Array.length_toList]; omega
              rw [hlk]
              refine ⟨rfl, ?_, below_setCells g (Nat.le_refl _) _ _ HB2.out⟩
              have ho3 := HO2.out
              have hl3 : dk.toList.length = d.length := by rw [Array.length_toList]; exact hds
              unfold Own at ho3 ⊢
              rw [hl3] at ho3
              have h4 := own_setCells zs (kk * 2) wr (Nat.le_refl _) (own_cut ho3 kk (by omega))
              rw [cellsL_take, ← HD.out] at h4
              rw [hlk]
              exact h4
        · have hk2 : eqK x1 x2 y1 y2 = false := by rw [eqK_iff (x1, x2) (y1, y2)]; simpa using hdup
          have HN := hid hdup
          clear hdup
          go_wp2_with fail
          go_quiet (fail)
          go_wp2_with fail
          go_roundg (d.length - (k + 1))
          case measure => omega
          case rel =>
            refine ⟨k + 1, q + nq, by omega, by omega, Nat.le_refl _, by go_num, by simp, fun j hj => ?_⟩
            by_cases e : j = k
            · subst e
              exact keeps_pos (by rw [HE.out.1, HE.out.2]; exact HN.out)
            · exact HA.out j (by omega)
      · have hkd : k = d.length := by omega
        have e := HS.out (fun j hj => HA.out j (by omega))
        have HE := hid e
        clear e hkd
        go_wp2
        go_ret
        rw [HE.out]
        exact ⟨rfl, HO.out, below_drewN (Below.refl _ _) _⟩

end Go.Proofs.Ytgpeaepmkincaaa
