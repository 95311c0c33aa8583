/-
  The contract of the reference's Put.
-/
import Derived.Test.YtgpeaepmkincaaaPuta
import Derived.Deep.RegionHeld3
import Derived.Deep.DrawnRows
import Derived.Deep.LoopGhost
import Derived.OwnWalk
import Derived.Deep.AppendLies
namespace Go.Proofs.Ytgpeaepmkincaaa
open Go.RowKit

/-- The worlds that Put goes through: its list and its key lie as they did. -/
def PutW (w : World) (base g n cap : Nat) (d : List (ByteArray × ByteArray)) (x : ByteArray × ByteArray) (wr : World) : Prop :=
  Own wr base (.slice (some ⟨g, 0, none⟩) n cap) d ∧ Below base w wr ∧ wr.cell? ⟨w.heap.size, 0, none⟩ = some (.string x.1) ∧ wr.cell? ⟨w.heap.size, 1, none⟩ = some (.string x.2)

theorem PutW.on {w : World} {base g n cap : Nat} {d : List (ByteArray × ByteArray)} {x : ByteArray × ByteArray} {W w' : World} (h : PutW w base g n cap d x W) (hb : base ≤ w.heap.size) (hq : Below W.heap.size W w') : PutW w base g n cap d x w' := by
  obtain ⟨h1, h2, h3, h4⟩ := h
  have hs := h2.size
  refine ⟨h1.on hq, h2.trans (hq.mono (by omega)), ?_, ?_⟩
  · have lt : w.heap.size < W.heap.size := by
      rcases Nat.lt_or_ge w.heap.size W.heap.size with h' | h'
      · exact h'
      · simp [World.cell?, Array.getElem?_eq_none h'] at h3
    rw [(bcell hq).1 _ _ lt]; exact h3
  · have lt : w.heap.size < W.heap.size := by
      rcases Nat.lt_or_ge w.heap.size W.heap.size with h' | h'
      · exact h'
      · simp [World.cell?, Array.getElem?_eq_none h'] at h3
    rw [(bcell hq).1 _ _ lt]; exact h4
theorem PutW.drew {w : World} {base g n cap : Nat} {d : List (ByteArray × ByteArray)} {x : ByteArray × ByteArray} {W : World} (h : PutW w base g n cap d x W) : PutW w base g n cap d x W.drew :=
  ⟨h.1, h.2.1.drew, h.2.2⟩

theorem PutW.full {w : World} {base g n cap : Nat} {d : List (ByteArray × ByteArray)} {x1 x2 : ByteArray} {W : World} (h : PutW w base g n cap d (x1, x2) W) (m : Nat) (hm : m < d.length) (y1 y2 : ByteArray) (hy : d[m] = (y1, y2)) :
    PutW w base g n cap d (x1, x2) W ∧ W.cell? ⟨g, m * 2, none⟩ = some (.string y1) ∧ W.cell? ⟨g, m * 2 + 1, none⟩ = some (.string y2) ∧ W.cell? ⟨w.heap.size, 0, none⟩ = some (.string x1) ∧ W.cell? ⟨w.heap.size, 1, none⟩ = some (.string x2) := by
  obtain ⟨a1, a2, _, _⟩ := own_atL h.1 m hm
  rw [hy] at a1 a2
  exact ⟨h, a1, a2, h.2.2.1, h.2.2.2⟩

theorem less_put (w : World) (base g n cap : Nat) (d : List (ByteArray × ByteArray)) (x y1 y2 z1 z2 : ByteArray) (x' : ByteArray) (hb : base ≤ w.heap.size) (W : World) (h : PutW w base g n cap d (x, x') W) :
    Calls Try.prog 24 #[.agg #[.string y1, .string y2], .agg #[.string z1, .string z2]] W fun e w' => e = .returned (.bool (decide (cmpI y1 y2 z1 z2 < 0))) ∧ PutW w base g n cap d (x, x') w' :=
  (less_any y1 y2 z1 z2 W).mono fun _ _ ⟨h1, h2⟩ => ⟨h1, h.on hb h2⟩

theorem Try.info26 : (Try.prog.info? 26).map (fun i => (i.zero, i.size, i.bytes)) = some (some (.agg #[.string ⟨#[]⟩, .string ⟨#[]⟩]), 2, 32) := by kernel_rfl

theorem two_new (W : World) (N : Nat) (hN : N = W.heap.size) (a b : Value) : ∀ j u, [a, b][j]? = some u → (W.alloc (.cells #[a, b] 26)).cell? ((⟨N, 0, none⟩ : Addr).add j) = some u := by
  intro j u hu
  have hadd : (⟨N, 0, none⟩ : Addr).add j = ⟨N, j, none⟩ := by
    unfold Addr.add
    split
    · rename_i h; simp_all
    · simp
  rw [hadd, hN]
  exact new_cell W #[a, b] 26 j u (by simpa using hu)

theorem kept_n {w : World} {b o : Nat} {v : Value} {n : Nat} {ob : Obj} (h : w.cell? ⟨b, o, none⟩ = some v) (hlt : b < w.heap.size) : ((w.drewN n).alloc ob).cell? ⟨b, o, none⟩ = some v := by
  rw [← h]
  simp only [World.cell?, World.alloc, Array.getElem?_push]
  rw [if_neg (show ¬ b = (w.drewN n).heap.size from Nat.ne_of_lt hlt)]
  rfl

/-- The worlds of Put's second half: the longer list, and the key. -/
def PutV (w : World) (base g n cap : Nat) (dk : List (ByteArray × ByteArray)) (x : ByteArray × ByteArray) (wr : World) : Prop :=
  PutW w base g n cap dk x wr ∧ g ≠ w.heap.size

theorem PutV.store {w : World} {base g n cap : Nat} {dk : List (ByteArray × ByteArray)} {x : ByteArray × ByteArray} {wr : World} (h : PutV w base g n cap dk x wr) (hb : base ≤ g) (i : Nat) (hi : i < dk.length) (a b : ByteArray) :
    PutV w base g n cap (dk.set i (a, b)) x ((wr.setCell ⟨g, i * 2, none⟩ (.string a)).setCell ⟨g, i * 2 + 1, none⟩ (.string b)) := by
  obtain ⟨⟨h1, h2, h3, h4⟩, h5⟩ := h
  refine ⟨⟨own_storeL h1 i hi a b, (h2.setCell hb _).setCell hb _, ?_, ?_⟩, h5⟩
  · rw [World.cell?_setCell_far _ _ _ _ h5, World.cell?_setCell_far _ _ _ _ h5]; exact h3
  · rw [World.cell?_setCell_far _ _ _ _ h5, World.cell?_setCell_far _ _ _ _ h5]; exact h4

/-- The new list, when the places behind p have moved up and x has come to p. -/
theorem put_list (d dk : List (ByteArray × ByteArray)) (x : ByteArray × ByteArray) (p : Nat) (hp : p ≤ d.length) (hl : dk.length = d.length + 1) (h1 : ∀ j, j < p → dk[j]? = d[j]?) (h2 : ∀ j, p < j → dk[j]? = d[j - 1]?) :
    dk.set p x = d.take p ++ x :: d.drop p := by
  apply List.ext_getElem?
  intro j
  rcases Nat.lt_trichotomy j p with h | h | h
  · rw [List.getElem?_set_ne (by omega), h1 j h, List.getElem?_append_left (by rw [List.length_take]; omega), List.getElem?_take_of_lt h]
  · subst h
    rw [List.getElem?_set_self (by omega), List.getElem?_append_right (by rw [List.length_take]; omega), List.length_take, Nat.min_eq_left hp, Nat.sub_self]
    rfl
  · rw [List.getElem?_set_ne (by omega), h2 j h, List.getElem?_append_right (by rw [List.length_take]; omega), List.length_take, Nat.min_eq_left hp]
    obtain ⟨u, rfl⟩ : ∃ u, j = p + u + 1 := ⟨j - p - 1, by omega⟩
    rw [show p + u + 1 - p = u + 1 by omega, List.getElem?_cons_succ, List.getElem?_drop, show p + u + 1 - 1 = p + u by omega]

/-- What Put leaves: a rising list with the key in it, in memory of its own. -/
def PutPost (base : Nat) (d : List (ByteArray × ByteArray)) (x : ByteArray × ByteArray) (w : World) (e : Ending) (w' : World) : Prop :=
  ∃ v r, e = .returned v ∧ Rises r ∧ (∀ y, y ∈ r ↔ y = x ∨ y ∈ d) ∧ r.length ≤ d.length + 1 ∧ Own w' base v r ∧ Below base w w'

attribute [local go_sem ↓] Go.wp_at_zero Go.wp_at_succ

set_option maxHeartbeats 2000000 in
theorem put_own (g cap base : Nat) (d : List (ByteArray × ByteArray)) (x1 x2 : ByteArray) (w : World) (hown : Own w base (.slice (some ⟨g, 0, none⟩) d.length cap) d)
    (hbase : base ≤ w.heap.size) (hr : Rises d) (hbytes : (d.length + 1) * 32 ≤ 140737488355328) :
    Calls Try.prog 44 #[.slice (some ⟨g, 0, none⟩) d.length cap, .agg #[.string x1, .string x2]] w (PutPost base d (x1, x2) w) := by
  have hp0 : PutW w base g d.length cap d (x1, x2) (w.alloc (.cells #[.string x1, .string x2] 26)) :=
    ⟨World.ownsRow.alloc hown _, (Below.refl _ _).alloc hbase _, by simp [go_sem], by simp [go_sem]⟩
  have hgl := World.ownsRow.lt hown g rfl
  have HP0 := hid hp0
  have HR := hid hr
  clear hp0 hr hown
  go_enter Try.func44, Try.ntmps44
  go_wp2
  go_loopg [5, 6] d.length (fun gh s5 s6 wr => ∃ lo hi : Nat, s5 = .int .i64 lo ∧ s6 = .int .i64 hi ∧ lo ≤ hi ∧ hi ≤ d.length ∧ hi - lo ≤ gh ∧ PutW w base g d.length cap d (x1, x2) wr ∧
    (∀ j, (hj : j < d.length) → j < lo → ahead d[j] (x1, x2)) ∧ (∀ j, (hj : j < d.length) → hi ≤ j → ¬ ahead d[j] (x1, x2)))
  case atStart => exact ⟨0, d.length, rfl, rfl, by omega, by omega, by omega, HP0.out, fun j _ h => by omega, fun j _ h => by omega⟩
  case round =>
    obtain ⟨lo, hi, rfl, rfl, hlh, hhn, hgh, hpw, hlo, hhi⟩ := hrel
    have HPW := hid hpw
    have HLO := hid hlo
    have HHI := hid hhi
    clear hlo hhi
    by_cases hlt : lo < hi
    · obtain ⟨m, hm⟩ : ∃ m, m = (lo + hi) / 2 := ⟨_, rfl⟩
      have hm1 : lo ≤ m := by omega
      have hm2 : m < hi := by omega
      have hmz : ((lo : Int) + (hi : Int)) / 2 = (m : Int) := by omega
      have HM := hid hm
      clear hm
      have hmd : m < d.length := by omega
      obtain ⟨⟨y1, y2⟩, hy⟩ : ∃ y, d[m] = y := ⟨_, rfl⟩
      have HY := hid hy
      have hful := PutW.full hpw m hmd y1 y2 hy
      clear hpw hy
      obtain ⟨_, a1, a2, b1, b2⟩ := id hful
      have im1 : (0 : Int) ≤ ↑m := by omega
      have im2 : (↑m : Int) < ↑d.length := by omega
      go_wp2_with fail
      go_region_held3 (fun w' => PutW w base g d.length cap d (x1, x2) w' ∧ w'.cell? ⟨g, m * 2, none⟩ = some (.string y1) ∧ w'.cell? ⟨g, m * 2 + 1, none⟩ = some (.string y2) ∧ w'.cell? ⟨w.heap.size, 0, none⟩ = some (.string x1) ∧ w'.cell? ⟨w.heap.size, 1, none⟩ = some (.string x2))
        (first | exact PutW.full HPW.out.drew m hmd y1 y2 HY.out | exact PutW.full hpw2 m hmd y1 y2 HY.out)
        ((go_at_call 24; refine (less_put w base g d.length cap d x1 y1 y2 x1 x2 x2 hbase _ HPW.out.drew).mono ?_; rintro o w2 ⟨rfl, hpw2⟩))
      have hpw3 : PutW w base g d.length cap d (x1, x2) w2 := hpw2
      clear a1 a2 b1 b2
      cases hc : decide (cmpI y1 y2 x1 x2 < 0) with
      | true =>
        have HC := hid hc
        go_wp2_with fail
        go_roundg (hi - (m + 1))
        case measure => omega
        case rel =>
          refine ⟨m + 1, hi, by go_num, rfl, by omega, by omega, Nat.le_refl _, hpw3, fun j hj h => ?_, HHI.out⟩
          have hax : ahead d[m] (x1, x2) := by rw [HY.out]; exact (ahead_cmp (y1, y2) (x1, x2)).1 HC.out
          by_cases hjm : j = m
          · subst hjm; exact hax
          · exact ahead_trans (rises_lt HR.out j m (by omega) hmd) hax
      | false =>
        have HC := hid hc
        go_wp2_with fail
        go_roundg (m - lo)
        case measure => omega
        case rel =>
          refine ⟨lo, m, rfl, rfl, by omega, by omega, Nat.le_refl _, hpw3, HLO.out, fun j hj h => ?_⟩
          have hax : ¬ ahead d[m] (x1, x2) := by
            rw [HY.out]
            intro h'
            have := (ahead_cmp (y1, y2) (x1, x2)).2 h'
            rw [HC.out] at this
            cases this
          by_cases hjm : j = m
          · subst hjm; exact hax
          · exact fun h' => hax (ahead_trans (rises_lt HR.out m j (by omega) hj) h')
    · have hle : hi = lo := by omega
      subst hle
      obtain ⟨ho, hbl, b1, b2⟩ := id hpw
      by_cases hin : hi < d.length
      · obtain ⟨⟨y1, y2⟩, hy⟩ : ∃ y, d[hi] = y := ⟨_, rfl⟩
        have HY := hid hy
        have hful := PutW.full hpw hi hin y1 y2 hy
        clear hy hpw
        obtain ⟨_, a1, a2, _, _⟩ := id hful
        have im1 : (0 : Int) ≤ ↑hi := by omega
        have im2 : (↑hi : Int) < ↑d.length := by omega
        have heq := fun W => eql_key y1 y2 x1 x2 W
        rw [eqK_iff (y1, y2) (x1, x2)] at heq
        by_cases hxy : (y1, y2) = (x1, x2)
        · have HX := hid hxy
          have hd : decide ((y1, y2) = (x1, x2)) = true := by simp [hxy]
          rw [hd] at heq
          clear hxy hd
          go_wp2_with fail
          go_quiet (fail)
          go_wp2_with fail
          go_ret
          refine ⟨_, d, rfl, HR.out, fun z => ⟨fun h => .inr h, ?_⟩, by omega, HPW.out.1, below_drewN HPW.out.2.1 _⟩
          rintro (rfl | h)
          · rw [← HX.out, ← HY.out]; exact List.getElem_mem _
          · exact h
        · have HX := hid hxy
          have hd : decide ((y1, y2) = (x1, x2)) = false := by simpa using hxy
          rw [hd] at heq
          clear hxy hd
          go_wp2_with fail
          go_quiet (fail)
          obtain ⟨i0, hi0, hz0, hz1, hz2⟩ := info_parts Try.info26
          have hsz := HPW.out.2.1.size
          go_wp2_with (at_builtin; refine wpList_append_lies _ rfl _ _ 31 rfl base 26 i0 (.agg #[.string ⟨#[]⟩, .string ⟨#[]⟩]) 2 32 Try.underlying31 hi0 hz0 hz1 hz2 rfl (by decide) _ _ _ rfl (World.ownsRow.alloc HPW.out.1 _) ⟨wr.heap.size, 0, none⟩ 1 1 [.string ⟨#[]⟩, .string ⟨#[]⟩] rfl rfl ?c1 ?c2 (by decide) ?c3 ?c4 ?c5 (wr.heap.size + 1) ?c6 ?_)
          case c1 => exact two_new _ _ rfl _ _
          case c2 => intro u hu; simp at hu; subst hu; rfl
          case c3 => unfold maxLen; omega
          case c4 => omega
          case c5 => simp; omega
          case c6 => simp
          intro g2 cap2 w1 hown1 hgrow hat hg2
          have hgN : g2 ≠ w.heap.size := by
            rcases hat with h | h
            · simp [Value.ownBlock] at h; omega
            · omega
          have hbg2 : base ≤ g2 := (World.ownsRow.lt hown1 g2 rfl).1
          have hpv : PutV w base g2 (d.length + 1) cap2 (d ++ [(⟨#[]⟩, ⟨#[]⟩)]) (x1, x2) w1 := by
            have hlt0 : w.heap.size < wr.heap.size := by
              rcases Nat.lt_or_ge w.heap.size wr.heap.size with h' | h'
              · exact h'
              · have := HPW.out.2.2.1; simp [World.cell?, Array.getElem?_eq_none h'] at this
            have hNg : some w.heap.size ≠ (Value.slice (some ⟨g, 0, none⟩) d.length cap).ownBlock := by simp [Value.ownBlock]; omega
            refine ⟨⟨?_, ?_, ?_, ?_⟩, hgN⟩
            · unfold Own; rw [cellsL_append, List.length_append]; exact hown1
            · exact ((below_drewN HPW.out.2.1 nq).alloc (by simp; omega) _).grown hgrow (by simp; omega) (by intro k hk; simp [Value.ownBlock] at hk; omega)
            · rw [hgrow.cell_far _ (by simp; omega) hNg]; exact kept_n (HPW.out.2.2.1) hlt0
            · rw [hgrow.cell_far _ (by simp; omega) hNg]; exact kept_n (HPW.out.2.2.2) hlt0
          have HPV := hid hpv
          clear hown1 hgrow hat hpv hg2 hi0 hz0 hz1 hz2 hful a1 a2
          go_wp2_with fail
          go_loopg [8] (d.length + 1) (fun gh s8 wr2 => ∃ (k : Nat) (dk : List (ByteArray × ByteArray)), s8 = .int .i64 k ∧ hi ≤ k ∧ k ≤ d.length ∧ k - hi ≤ gh ∧ PutV w base g2 (d.length + 1) cap2 dk (x1, x2) wr2 ∧ dk.length = d.length + 1 ∧ (∀ j, j < k → dk[j]? = d[j]?) ∧ (∀ j, k < j → dk[j]? = d[j - 1]?))
          case atStart =>
            refine ⟨d.length, _, by go_num, by omega, by omega, by omega, HPV.out, by simp, fun j hj => ?_, fun j hj => ?_⟩
            · rw [List.getElem?_append_left hj]
            · rw [List.getElem?_eq_none (by simp; omega), List.getElem?_eq_none (by omega)]
          case round =>
            obtain ⟨k, dk, rfl, hk1, hk2, hgh2, hv, hdl, hd1, hd2⟩ := hrel
            have HV := hid hv
            have HD := hid (And.intro hd1 hd2)
            clear hd1 hd2
            by_cases hgt : hi < k
            · obtain ⟨⟨p1, p2⟩, hp⟩ : ∃ y, dk[k - 1]'(by omega) = y := ⟨_, rfl⟩
              obtain ⟨e1, e2, _, _⟩ := own_atL hv.1.1 (k - 1) (by omega)
              obtain ⟨f1, f2, f3, f4⟩ := own_atL hv.1.1 k (by omega)
              rw [hp] at e1 e2
              have HP := hid hp
              clear hp hv
              generalize (dk[k]'(by omega)).1 = o1 at *
              generalize (dk[k]'(by omega)).2 = o2 at *
              have im1 : (0 : Int) ≤ ↑k - 1 := by omega
              have im2 : (↑k - 1 : Int) < ↑(d.length + 1) := by omega
              have im3 : (↑k : Int) < ↑(d.length + 1) := by omega
              go_wp2_with fail
              go_roundg (k - 1 - hi)
              case measure => omega
              case rel =>
                refine ⟨k - 1, dk.set k (p1, p2), by go_num, by omega, by omega, Nat.le_refl _, HV.out.store hbg2 k (by omega) p1 p2, by simp [hdl], fun j hj => ?_, fun j hj => ?_⟩
                · rw [List.getElem?_set_ne (by omega)]; exact HD.out.1 j (by omega)
                · by_cases hjk : j = k
                  · subst hjk
                    rw [List.getElem?_set_self (by omega), ← HD.out.1 (j - 1) (by omega), List.getElem?_eq_getElem (by omega), HP.out]
                  · rw [List.getElem?_set_ne (by omega)]; exact HD.out.2 j (by omega)
            · have hke : k = hi := by omega
              subst hke
              obtain ⟨f1, f2, f3, f4⟩ := own_atL hv.1.1 k (by omega)
              obtain ⟨_, _, e1, e2⟩ := hv.1
              generalize (dk[k]'(by omega)).1 = o1 at *
              generalize (dk[k]'(by omega)).2 = o2 at *
              have im1 : (0 : Int) ≤ ↑k := by omega
              have im3 : (↑k : Int) < ↑(d.length + 1) := by omega
              go_wp2_with fail
              go_ret
              have hst := HV.out.store hbg2 k (by omega) x1 x2
              have hpl := put_list d dk (x1, x2) k (by omega) hdl HD.out.1 HD.out.2
              rw [hpl] at hst
              obtain ⟨hri, hmem⟩ := insert_rises d (x1, x2) k (by omega) HR.out HLO.out (fun j hj h => by
                have hx : ahead (x1, x2) d[k] := by
                  rcases ahead_total d[k] (x1, x2) with h' | h' | h'
                  · exact absurd h' (HHI.out k hin (Nat.le_refl _))
                  · rw [HY.out] at h'; exact absurd h' HX.out
                  · exact h'
                by_cases hjk : j = k
                · subst hjk; exact hx
                · exact ahead_trans hx (rises_lt HR.out k j (by omega) hj))
              exact ⟨_, _, rfl, hri, hmem, by simp; omega, hst.1.1, hst.1.2.1⟩
      · have hin' : decide ((hi : Int) < (d.length : Int)) = false := by simp; omega
        have hin2 : ¬ (hi : Int) < (d.length : Int) := by omega
        clear hpw
        go_wp2_with fail
        go_quiet (fail)
        obtain ⟨i0, hi0, hz0, hz1, hz2⟩ := info_parts Try.info26
        have hsz := HPW.out.2.1.size
        go_wp2_with (at_builtin; refine wpList_append_lies _ rfl _ _ 31 rfl base 26 i0 (.agg #[.string ⟨#[]⟩, .string ⟨#[]⟩]) 2 32 Try.underlying31 hi0 hz0 hz1 hz2 rfl (by decide) _ _ _ rfl (World.ownsRow.alloc HPW.out.1 _) ⟨wr.heap.size, 0, none⟩ 1 1 [.string ⟨#[]⟩, .string ⟨#[]⟩] rfl rfl ?c1 ?c2 (by decide) ?c3 ?c4 ?c5 (wr.heap.size + 1) ?c6 ?_)
        case c1 => exact two_new _ _ rfl _ _
        case c2 => intro u hu; simp at hu; subst hu; rfl
        case c3 => unfold maxLen; omega
        case c4 => omega
        case c5 => simp; omega
        case c6 => simp
        intro g2 cap2 w1 hown1 hgrow hat hg2
        have hgN : g2 ≠ w.heap.size := by
          rcases hat with h | h
          · simp [Value.ownBlock] at h; omega
          · omega
        have hbg2 : base ≤ g2 := (World.ownsRow.lt hown1 g2 rfl).1
        have hpv : PutV w base g2 (d.length + 1) cap2 (d ++ [(⟨#[]⟩, ⟨#[]⟩)]) (x1, x2) w1 := by
          have hlt0 : w.heap.size < wr.heap.size := by
            rcases Nat.lt_or_ge w.heap.size wr.heap.size with h' | h'
            · exact h'
            · have := HPW.out.2.2.1; simp [World.cell?, Array.getElem?_eq_none h'] at this
          have hNg : some w.heap.size ≠ (Value.slice (some ⟨g, 0, none⟩) d.length cap).ownBlock := by simp [Value.ownBlock]; omega
          refine ⟨⟨?_, ?_, ?_, ?_⟩, hgN⟩
          · unfold Own; rw [cellsL_append, List.length_append]; exact hown1
          · exact ((below_drewN HPW.out.2.1 nq).alloc (by simp; omega) _).grown hgrow (by simp; omega) (by intro k hk; simp [Value.ownBlock] at hk; omega)
          · rw [hgrow.cell_far _ (by simp; omega) hNg]; exact kept_n (HPW.out.2.2.1) hlt0
          · rw [hgrow.cell_far _ (by simp; omega) hNg]; exact kept_n (HPW.out.2.2.2) hlt0
        have HPV := hid hpv
        clear hown1 hgrow hat hpv hg2 hi0 hz0 hz1 hz2 
        go_wp2_with fail
        go_loopg [8] (d.length + 1) (fun gh s8 wr2 => ∃ (k : Nat) (dk : List (ByteArray × ByteArray)), s8 = .int .i64 k ∧ hi ≤ k ∧ k ≤ d.length ∧ k - hi ≤ gh ∧ PutV w base g2 (d.length + 1) cap2 dk (x1, x2) wr2 ∧ dk.length = d.length + 1 ∧ (∀ j, j < k → dk[j]? = d[j]?) ∧ (∀ j, k < j → dk[j]? = d[j - 1]?))
        case atStart =>
          refine ⟨d.length, _, by go_num, by omega, by omega, by omega, HPV.out, by simp, fun j hj => ?_, fun j hj => ?_⟩
          · rw [List.getElem?_append_left hj]
          · rw [List.getElem?_eq_none (by simp; omega), List.getElem?_eq_none (by omega)]
        case round =>
          obtain ⟨k, dk, rfl, hk1, hk2, hgh2, hv, hdl, hd1, hd2⟩ := hrel
          have HV := hid hv
          have HD := hid (And.intro hd1 hd2)
          clear hd1 hd2
          by_cases hgt : hi < k
          · exact absurd hgt (by omega)
          · have hke : k = hi := by omega
            subst hke
            obtain ⟨f1, f2, f3, f4⟩ := own_atL hv.1.1 k (by omega)
            obtain ⟨_, _, e1, e2⟩ := hv.1
            generalize (dk[k]'(by omega)).1 = o1 at *
            generalize (dk[k]'(by omega)).2 = o2 at *
            have im1 : (0 : Int) ≤ ↑k := by omega
            have im3 : (↑k : Int) < ↑(d.length + 1) := by omega
            go_wp2_with fail
            go_ret
            have hst := HV.out.store hbg2 k (by omega) x1 x2
            have hpl := put_list d dk (x1, x2) k (by omega) hdl HD.out.1 HD.out.2
            rw [hpl] at hst
            obtain ⟨hri, hmem⟩ := insert_rises d (x1, x2) k (by omega) HR.out HLO.out (fun j hj h => absurd h (by omega))
            exact ⟨_, _, rfl, hri, hmem, by simp; omega, hst.1.1, hst.1.2.1⟩

set_option maxHeartbeats 1000000 in
theorem put_nil (base : Nat) (x1 x2 : ByteArray) (w : World) (hbase : base ≤ w.heap.size) :
    Calls Try.prog 44 #[.slice none 0 0, .agg #[.string x1, .string x2]] w (PutPost base [] (x1, x2) w) := by
  go_enter Try.func44, Try.ntmps44
  go_wp2
  refine wp_loop_rounds 1 ?_
  rw [rounds_succ]
  go_wp2_with fail
  go_quiet (fail)
  obtain ⟨i0, hi0, hz0, hz1, hz2⟩ := info_parts Try.info26
  go_wp2_with (at_builtin; refine wpList_append_lies _ rfl _ _ 31 rfl base 26 i0 (.agg #[.string ⟨#[]⟩, .string ⟨#[]⟩]) 2 32 Try.underlying31 hi0 hz0 hz1 hz2 rfl (by decide) _ _ _ rfl (World.ownsRow_nil _ base 26 2) ⟨w.heap.size + 1, 0, none⟩ 1 1 [.string ⟨#[]⟩, .string ⟨#[]⟩] rfl rfl ?c1 ?c2 (by decide) ?c3 ?c4 ?c5 (w.heap.size + 2) ?c6 ?_)
  case c1 => exact two_new _ _ (by simp) _ _
  case c2 => intro u hu; simp at hu; subst hu; rfl
  case c3 => unfold maxLen; omega
  case c4 => omega
  case c5 => simp; omega
  case c6 => simp
  intro g2 cap2 w1 hown1 hgrow hat hg2
  have hg : g2 = w.heap.size + 2 := by
    rcases hat with h | h
    · simp [Value.ownBlock] at h
    · exact h
  have c0 : w1.cell? ⟨w.heap.size, 0, none⟩ = some (.string x1) := by
    rw [hgrow.cell_far _ (by simp; omega) (by simp [Value.ownBlock])]; simp [go_sem]
  have c1 : w1.cell? ⟨w.heap.size, 1, none⟩ = some (.string x2) := by
    rw [hgrow.cell_far _ (by simp; omega) (by simp [Value.ownBlock])]; simp [go_sem]
  have ho : Own w1 base (.slice (some ⟨g2, 0, none⟩) (0 + 1) cap2) [(⟨#[]⟩, ⟨#[]⟩)] := hown1
  have hb1 : Below base w w1 := (((below_drewN ((Below.refl _ _).alloc hbase _) _).alloc (by simp; omega) _).grown hgrow (by simp; omega) (by intro k hk; simp [Value.ownBlock] at hk))
  have hbg : base ≤ g2 := by omega
  obtain ⟨f1, f2, f3, f4⟩ := own_atL ho 0 (by simp)
  have HO := hid ho
  have HB := hid hb1
  clear hown1 hgrow hat hg2 hi0 hz0 hz1 hz2 ho hb1 hg
  go_wp2_with fail
  refine wp_loop_rounds 1 ?_
  rw [rounds_succ]
  go_wp2_with fail
  go_ret
  have hst := own_storeL HO.out 0 (by simp) x1 x2
  refine ⟨_, [(x1, x2)], rfl, List.pairwise_singleton _ _, fun y => by simp, by simp, ?_, (HB.out.setCell hbg _).setCell hbg _⟩
  exact hst

end Go.Proofs.Ytgpeaepmkincaaa
