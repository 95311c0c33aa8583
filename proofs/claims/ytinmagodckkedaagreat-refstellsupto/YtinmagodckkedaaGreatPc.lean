/-
  Texts of this claim, one behind the other: Zputa Zput Rkp Rfo Rmp Rr1 Rtk.
-/
import Derived.Test.YtinmagodckkedaaGreatPb
import Derived.Deep.RegionHeld3
import Derived.Deep.DrawnRows
import Derived.Deep.LoopGhost
import Derived.OwnWalk
import Derived.Deep.AppendLies
import Derived.Maps.OwnSet
import Derived.Maps.OwnOps
import Derived.Maps.Views
/-
  A key more in a rising list, in plain lists; and a row of keys under small changes.
-/
namespace Go.Proofs.YtinmagodckkedaaGreat.Z
open Go.RowKit

theorem rises_lt {d : List (ByteArray × ByteArray)} (h : Rises d) (i j : Nat) (hij : i < j) (hj : j < d.length) : ahead (d[i]'(by omega)) d[j] :=
  List.pairwise_iff_getElem.1 h i j (by omega) hj hij

theorem insert_rises (d : List (ByteArray × ByteArray)) (x : ByteArray × ByteArray) (p : Nat) (hp : p ≤ d.length) (hd : Rises d)
    (hlo : ∀ j, (hj : j < d.length) → j < p → ahead d[j] x) (hhi : ∀ j, (hj : j < d.length) → p ≤ j → ahead x d[j]) :
    Rises (d.take p ++ x :: d.drop p) ∧ ∀ y, y ∈ d.take p ++ x :: d.drop p ↔ y = x ∨ y ∈ d := by
  refine ⟨?_, fun y => ?_⟩
  · refine List.pairwise_append.2 ⟨hd.sublist (List.take_sublist _ _), List.pairwise_cons.2 ⟨fun y hy => ?_, hd.sublist (List.drop_sublist _ _)⟩, fun a ha b hb => ?_⟩
    · obtain ⟨j, hj, rfl⟩ := List.mem_iff_getElem.1 hy
      rw [List.getElem_drop]
      exact hhi _ _ (by omega)
    · obtain ⟨i, hi, rfl⟩ := List.mem_iff_getElem.1 ha
      rw [List.length_take] at hi
      rw [List.getElem_take]
      have hax := hlo i (by omega) (by omega)
      rcases List.mem_cons.1 hb with rfl | hb
      · exact hax
      · obtain ⟨j, hj, rfl⟩ := List.mem_iff_getElem.1 hb
        rw [List.getElem_drop]
        exact ahead_trans hax (hhi _ (by simp at hj; omega) (by omega))
  · have := List.take_append_drop p d
    constructor
    · intro h
      rcases List.mem_append.1 h with h | h
      · exact .inr (List.mem_of_mem_take h)
      · rcases List.mem_cons.1 h with h | h
        · exact .inl h
        · exact .inr (List.mem_of_mem_drop h)
    · rintro (rfl | h)
      · exact List.mem_append_right _ (List.mem_cons_self ..)
      · rw [← this] at h
        rcases List.mem_append.1 h with h | h
        · exact List.mem_append_left _ h
        · exact List.mem_append_right _ (List.mem_cons_of_mem _ h)

theorem zown_storeL {w : World} {base g n cap : Nat} {d : List (ByteArray × ByteArray)} (h : Own w base (.slice (some ⟨g, 0, none⟩) n cap) d) (i : Nat) (hi : i < d.length) (a b : ByteArray) :
    Own ((w.setCell ⟨g, i * 2, none⟩ (.string a)).setCell ⟨g, i * 2 + 1, none⟩ (.string b)) base (.slice (some ⟨g, 0, none⟩) n cap) (d.set i (a, b)) := by
  obtain ⟨rfl, _⟩ := h.keysAt
  have h1 := (World.ownsRow.stored h (i * 2) (.string a)).1
  have h2 := (World.ownsRow.stored h1 (i * 2 + 1) (.string b)).1
  rw [cellsL_set _ _ _ _ hi] at h2
  unfold Own
  rw [List.length_set]
  exact h2

theorem zown_atL {w : World} {base g n cap : Nat} {d : List (ByteArray × ByteArray)} (h : Own w base (.slice (some ⟨g, 0, none⟩) n cap) d) (i : Nat) (hi : i < d.length) :
    w.cell? ⟨g, i * 2, none⟩ = some (.string d[i].1) ∧ w.cell? ⟨g, i * 2 + 1, none⟩ = some (.string d[i].2) ∧ w.frozen? ⟨g, i * 2, none⟩ = false ∧ w.frozen? ⟨g, i * 2 + 1, none⟩ = false := by
  have := h.keysAt.2 i hi
  rw [Nat.zero_add] at this
  exact ⟨this.1, this.2, zown_frozen h _, zown_frozen h _⟩

theorem Own.on {W w' : World} {base : Nat} {v : Value} {d : List (ByteArray × ByteArray)} (h : Own W base v d) (hq : Below W.heap.size W w') : Own w' base v d := by
  obtain ⟨hl, h' | ⟨g, cap, cur, h', hb, hg, hnc, hcm, hcs, ht⟩⟩ := h
  · exact ⟨hl, .inl h'⟩
  · have lt : g < W.heap.size := (Array.getElem?_eq_some_iff.1 hg).1
    exact ⟨hl, .inr ⟨g, cap, cur, h', hb, by rw [hq.block g lt]; exact hg, hnc, hcm, hcs, ht⟩⟩

theorem ahead_cmp (x y : ByteArray × ByteArray) : decide (cmpI x.1 x.2 y.1 y.2 < 0) = true ↔ ahead x y := by
  rw [decide_eq_true_iff]; rfl

end Go.Proofs.YtinmagodckkedaaGreat.Z

/-
  The contract of the reference's Put.
-/
namespace Go.Proofs.YtinmagodckkedaaGreat.Z
open Go.RowKit

theorem new_cell (w : World) (cs : Array Value) (t : TypeId) (k : Nat) (v : Value) (h : cs[k]? = some v) : (w.alloc (.cells cs t)).cell? ⟨w.heap.size, k, none⟩ = some v := by
  simp only [World.cell?]; rw [heap_alloc_new]; exact h

/-- The worlds that Put goes through: its list and its key lie as they did. -/
def PutW (w : World) (base g n cap : Nat) (d : List (ByteArray × ByteArray)) (x : ByteArray × ByteArray) (wr : World) : Prop :=
  Own wr base (.slice (some ⟨g, 0, none⟩) n cap) d ∧ Below base w wr ∧ wr.cell? ⟨w.heap.size, 0, none⟩ = some (.string x.1) ∧ wr.cell? ⟨w.heap.size, 1, none⟩ = some (.string x.2)

theorem PutW.on {w : World} {base g n cap : Nat} {d : List (ByteArray × ByteArray)} {x : ByteArray × ByteArray} {W w' : World} (h : PutW w base g n cap d x W) (hb : base ≤ w.heap.size) (hq : Below W.heap.size W w') : PutW w base g n cap d x w' := by
  obtain ⟨h1, h2, h3, h4⟩ := h
  have hs := h2.size
  refine ⟨h1.on hq, h2.trans (hq.mono (by omega)), ?_, ?_⟩
  · have lt : w.heap.size < W.heap.size := by
      rcases Nat.lt_or_ge w.heap.size W.heap.size with h' | h'
      · exact h'
      · simp [World.cell?, Array.getElem?_eq_none h'] at h3
    rw [(bcell hq).1 _ _ lt]; exact h3
  · have lt : w.heap.size < W.heap.size := by
      rcases Nat.lt_or_ge w.heap.size W.heap.size with h' | h'
      · exact h'
      · simp [World.cell?, Array.getElem?_eq_none h'] at h3
    rw [(bcell hq).1 _ _ lt]; exact h4
theorem PutW.drew {w : World} {base g n cap : Nat} {d : List (ByteArray × ByteArray)} {x : ByteArray × ByteArray} {W : World} (h : PutW w base g n cap d x W) : PutW w base g n cap d x W.drew :=
  ⟨h.1, h.2.1.drew, h.2.2⟩

theorem PutW.full {w : World} {base g n cap : Nat} {d : List (ByteArray × ByteArray)} {x1 x2 : ByteArray} {W : World} (h : PutW w base g n cap d (x1, x2) W) (m : Nat) (hm : m < d.length) (y1 y2 : ByteArray) (hy : d[m] = (y1, y2)) :
    PutW w base g n cap d (x1, x2) W ∧ W.cell? ⟨g, m * 2, none⟩ = some (.string y1) ∧ W.cell? ⟨g, m * 2 + 1, none⟩ = some (.string y2) ∧ W.cell? ⟨w.heap.size, 0, none⟩ = some (.string x1) ∧ W.cell? ⟨w.heap.size, 1, none⟩ = some (.string x2) := by
  obtain ⟨a1, a2, _, _⟩ := zown_atL h.1 m hm
  rw [hy] at a1 a2
  exact ⟨h, a1, a2, h.2.2.1, h.2.2.2⟩

theorem less_put (w : World) (base g n cap : Nat) (d : List (ByteArray × ByteArray)) (x y1 y2 z1 z2 : ByteArray) (x' : ByteArray) (hb : base ≤ w.heap.size) (W : World) (h : PutW w base g n cap d (x, x') W) :
    Calls Tryz.prog 33 #[.agg #[.string y1, .string y2], .agg #[.string z1, .string z2]] W fun e w' => e = .returned (.bool (decide (cmpI y1 y2 z1 z2 < 0))) ∧ PutW w base g n cap d (x, x') w' :=
  (zless_any y1 y2 z1 z2 W).mono fun _ _ ⟨h1, h2⟩ => ⟨h1, h.on hb h2⟩

theorem Tryz.infoKey : (Tryz.prog.info? 31).map (fun i => (i.zero, i.size, i.bytes)) = some (some (.agg #[.string ⟨#[]⟩, .string ⟨#[]⟩]), 2, 32) := by kernel_rfl

theorem two_new (W : World) (N : Nat) (hN : N = W.heap.size) (a b : Value) : ∀ j u, [a, b][j]? = some u → (W.alloc (.cells #[a, b] 31)).cell? ((⟨N, 0, none⟩ : Addr).add j) = some u := by
  intro j u hu
  have hadd : (⟨N, 0, none⟩ : Addr).add j = ⟨N, j, none⟩ := by
    unfold Addr.add
    split
    · rename_i h; simp_all
    · simp
  rw [hadd, hN]
  exact new_cell W #[a, b] 31 j u (by simpa using hu)

theorem kept_n {w : World} {b o : Nat} {v : Value} {n : Nat} {ob : Obj} (h : w.cell? ⟨b, o, none⟩ = some v) (hlt : b < w.heap.size) : ((w.drewN n).alloc ob).cell? ⟨b, o, none⟩ = some v := by
  rw [← h]
  simp only [World.cell?, World.alloc, Array.getElem?_push]
  rw [if_neg (show ¬ b = (w.drewN n).heap.size from Nat.ne_of_lt hlt)]
  rfl

/-- The worlds of Put's second half: the longer list, and the key. -/
def PutV (w : World) (base g n cap : Nat) (dk : List (ByteArray × ByteArray)) (x : ByteArray × ByteArray) (wr : World) : Prop :=
  PutW w base g n cap dk x wr ∧ g ≠ w.heap.size

theorem PutV.store {w : World} {base g n cap : Nat} {dk : List (ByteArray × ByteArray)} {x : ByteArray × ByteArray} {wr : World} (h : PutV w base g n cap dk x wr) (hb : base ≤ g) (i : Nat) (hi : i < dk.length) (a b : ByteArray) :
    PutV w base g n cap (dk.set i (a, b)) x ((wr.setCell ⟨g, i * 2, none⟩ (.string a)).setCell ⟨g, i * 2 + 1, none⟩ (.string b)) := by
  obtain ⟨⟨h1, h2, h3, h4⟩, h5⟩ := h
  refine ⟨⟨zown_storeL h1 i hi a b, (h2.setCell hb _).setCell hb _, ?_, ?_⟩, h5⟩
  · rw [World.cell?_setCell_far _ _ _ _ h5, World.cell?_setCell_far _ _ _ _ h5]; exact h3
  · rw [World.cell?_setCell_far _ _ _ _ h5, World.cell?_setCell_far _ _ _ _ h5]; exact h4

/-- The new list, when the places behind p have moved up and x has come to p. -/
theorem put_list (d dk : List (ByteArray × ByteArray)) (x : ByteArray × ByteArray) (p : Nat) (hp : p ≤ d.length) (hl : dk.length = d.length + 1) (h1 : ∀ j, j < p → dk[j]? = d[j]?) (h2 : ∀ j, p < j → dk[j]? = d[j - 1]?) :
    dk.set p x = d.take p ++ x :: d.drop p := by
  apply List.ext_getElem?
  intro j
  rcases Nat.lt_trichotomy j p with h | h | h
  · rw [List.getElem?_set_ne (by omega), h1 j h, List.getElem?_append_left (by rw [List.length_take]; omega), List.getElem?_take_of_lt h]
  · subst h
    rw [List.getElem?_set_self (by omega), List.getElem?_append_right (by rw [List.length_take]; omega), List.length_take, Nat.min_eq_left hp, Nat.sub_self]
    rfl
  · rw [List.getElem?_set_ne (by omega), h2 j h, List.getElem?_append_right (by rw [List.length_take]; omega), List.length_take, Nat.min_eq_left hp]
    obtain ⟨u, rfl⟩ : ∃ u, j = p + u + 1 := ⟨j - p - 1, by omega⟩
    rw [show p + u + 1 - p = u + 1 by omega, List.getElem?_cons_succ, List.getElem?_drop, show p + u + 1 - 1 = p + u by omega]

/-- What Put leaves: a rising list with the key in it, in memory of its own. -/
def PutPost (base : Nat) (d : List (ByteArray × ByteArray)) (x : ByteArray × ByteArray) (w : World) (e : Ending) (w' : World) : Prop :=
  ∃ v r, e = .returned v ∧ Rises r ∧ (∀ y, y ∈ r ↔ y = x ∨ y ∈ d) ∧ r.length ≤ d.length + 1 ∧ Own w' base v r ∧ Below base w w'

attribute [local go_sem ↓] Go.wp_at_zero Go.wp_at_succ

set_option maxHeartbeats 2000000 in
theorem zput_own (g cap base : Nat) (d : List (ByteArray × ByteArray)) (x1 x2 : ByteArray) (w : World) (hown : Own w base (.slice (some ⟨g, 0, none⟩) d.length cap) d)
    (hbase : base ≤ w.heap.size) (hr : Rises d) (hbytes : (d.length + 1) * 32 ≤ 140737488355328) :
    Calls Tryz.prog 16 #[.slice (some ⟨g, 0, none⟩) d.length cap, .agg #[.string x1, .string x2]] w (PutPost base d (x1, x2) w) := by
  have hp0 : PutW w base g d.length cap d (x1, x2) (w.alloc (.cells #[.string x1, .string x2] 31)) :=
    ⟨World.ownsRow.alloc hown _, (Below.refl _ _).alloc hbase _, by simp [go_sem], by simp [go_sem]⟩
  have hgl := World.ownsRow.lt hown g rfl
  have HP0 := hid hp0
  have HR := hid hr
  clear hp0 hr hown
  go_enter Tryz.func16, Tryz.ntmps16
  go_wp2
  go_loopg [5, 6] d.length (fun gh s5 s6 wr => ∃ lo hi : Nat, s5 = .int .i64 lo ∧ s6 = .int .i64 hi ∧ lo ≤ hi ∧ hi ≤ d.length ∧ hi - lo ≤ gh ∧ PutW w base g d.length cap d (x1, x2) wr ∧
    (∀ j, (hj : j < d.length) → j < lo → ahead d[j] (x1, x2)) ∧ (∀ j, (hj : j < d.length) → hi ≤ j → ¬ ahead d[j] (x1, x2)))
  case atStart => exact ⟨0, d.length, rfl, rfl, by omega, by omega, by omega, HP0.out, fun j _ h => by omega, fun j _ h => by omega⟩
  case round =>
    obtain ⟨lo, hi, rfl, rfl, hlh, hhn, hgh, hpw, hlo, hhi⟩ := hrel
    have HPW := hid hpw
    have HLO := hid hlo
    have HHI := hid hhi
    clear hlo hhi
    by_cases hlt : lo < hi
    · obtain ⟨m, hm⟩ : ∃ m, m = (lo + hi) / 2 := ⟨_, rfl⟩
      have hm1 : lo ≤ m := by omega
      have hm2 : m < hi := by omega
      have hmz : ((lo : Int) + (hi : Int)) / 2 = (m : Int) := by omega
      have HM := hid hm
      clear hm
      have hmd : m < d.length := by omega
      obtain ⟨⟨y1, y2⟩, hy⟩ : ∃ y, d[m] = y := ⟨_, rfl⟩
      have HY := hid hy
      have hful := PutW.full hpw m hmd y1 y2 hy
      clear hpw hy
      obtain ⟨_, a1, a2, b1, b2⟩ := id hful
      have im1 : (0 : Int) ≤ ↑m := by omega
      have im2 : (↑m : Int) < ↑d.length := by omega
      go_wp2_with fail
      go_region_held3 (fun w' => PutW w base g d.length cap d (x1, x2) w' ∧ w'.cell? ⟨g, m * 2, none⟩ = some (.string y1) ∧ w'.cell? ⟨g, m * 2 + 1, none⟩ = some (.string y2) ∧ w'.cell? ⟨w.heap.size, 0, none⟩ = some (.string x1) ∧ w'.cell? ⟨w.heap.size, 1, none⟩ = some (.string x2))
        (first | exact PutW.full HPW.out.drew m hmd y1 y2 HY.out | exact PutW.full hpw2 m hmd y1 y2 HY.out)
        ((go_at_call 33; refine (less_put w base g d.length cap d x1 y1 y2 x1 x2 x2 hbase _ HPW.out.drew).mono ?_; rintro o w2 ⟨rfl, hpw2⟩))
      have hpw3 : PutW w base g d.length cap d (x1, x2) w2 := hpw2
      clear a1 a2 b1 b2
      cases hc : decide (cmpI y1 y2 x1 x2 < 0) with
      | true =>
        have HC := hid hc
        go_wp2_with fail
        go_roundg (hi - (m + 1))
        case measure => omega
        case rel =>
          refine ⟨m + 1, hi, by go_num, rfl, by omega, by omega, Nat.le_refl _, hpw3, fun j hj h => ?_, HHI.out⟩
          have hax : ahead d[m] (x1, x2) := by rw [HY.out]; exact (ahead_cmp (y1, y2) (x1, x2)).1 HC.out
          by_cases hjm : j = m
          · subst hjm; exact hax
          · exact ahead_trans (rises_lt HR.out j m (by omega) hmd) hax
      | false =>
        have HC := hid hc
        go_wp2_with fail
        go_roundg (m - lo)
        case measure => omega
        case rel =>
          refine ⟨lo, m, rfl, rfl, by omega, by omega, Nat.le_refl _, hpw3, HLO.out, fun j hj h => ?_⟩
          have hax : ¬ ahead d[m] (x1, x2) := by
            rw [HY.out]
            intro h'
            have := (ahead_cmp (y1, y2) (x1, x2)).2 h'
            rw [HC.out] at this
            cases this
          by_cases hjm : j = m
          · subst hjm; exact hax
          · exact fun h' => hax (ahead_trans (rises_lt HR.out m j (by omega) hj) h')
    · have hle : hi = lo := by omega
      subst hle
      obtain ⟨ho, hbl, b1, b2⟩ := id hpw
      by_cases hin : hi < d.length
      · obtain ⟨⟨y1, y2⟩, hy⟩ : ∃ y, d[hi] = y := ⟨_, rfl⟩
        have HY := hid hy
        have hful := PutW.full hpw hi hin y1 y2 hy
        clear hy hpw
        obtain ⟨_, a1, a2, _, _⟩ := id hful
        have im1 : (0 : Int) ≤ ↑hi := by omega
        have im2 : (↑hi : Int) < ↑d.length := by omega
        have heq := fun W => eql_key y1 y2 x1 x2 W
        rw [eqK_iff (y1, y2) (x1, x2)] at heq
        by_cases hxy : (y1, y2) = (x1, x2)
        · have HX := hid hxy
          have hd : decide ((y1, y2) = (x1, x2)) = true := by simp [hxy]
          rw [hd] at heq
          clear hxy hd
          go_wp2_with fail
          go_quiet (fail)
          go_wp2_with fail
          go_ret
          refine ⟨_, d, rfl, HR.out, fun z => ⟨fun h => .inr h, ?_⟩, by omega, HPW.out.1, below_drewN HPW.out.2.1 _⟩
          rintro (rfl | h)
          · rw [← HX.out, ← HY.out]; exact List.getElem_mem _
          · exact h
        · have HX := hid hxy
          have hd : decide ((y1, y2) = (x1, x2)) = false := by simpa using hxy
          rw [hd] at heq
          clear hxy hd
          go_wp2_with fail
          go_quiet (fail)
          obtain ⟨i0, hi0, hz0, hz1, hz2⟩ := info_parts Tryz.infoKey
          have hsz := HPW.out.2.1.size
          go_wp2_with (at_builtin; refine wpList_append_lies _ rfl _ _ 23 rfl base 31 i0 (.agg #[.string ⟨#[]⟩, .string ⟨#[]⟩]) 2 32 Tryz.underlying23 hi0 hz0 hz1 hz2 rfl (by decide) _ _ _ rfl (World.ownsRow.alloc HPW.out.1 _) ⟨wr.heap.size, 0, none⟩ 1 1 [.string ⟨#[]⟩, .string ⟨#[]⟩] rfl rfl ?c1 ?c2 (by decide) ?c3 ?c4 ?c5 (wr.heap.size + 1) ?c6 ?_)
          case c1 => exact two_new _ _ rfl _ _
          case c2 => intro u hu; simp at hu; subst hu; rfl
          case c3 => unfold maxLen; omega
          case c4 => omega
          case c5 => simp; omega
          case c6 => simp
          intro g2 cap2 w1 hown1 hgrow hat hg2
          have hgN : g2 ≠ w.heap.size := by
            rcases hat with h | h
            · simp [Value.ownBlock] at h; omega
            · omega
          have hbg2 : base ≤ g2 := (World.ownsRow.lt hown1 g2 rfl).1
          have hpv : PutV w base g2 (d.length + 1) cap2 (d ++ [(⟨#[]⟩, ⟨#[]⟩)]) (x1, x2) w1 := by
            have hlt0 : w.heap.size < wr.heap.size := by
              rcases Nat.lt_or_ge w.heap.size wr.heap.size with h' | h'
              · exact h'
              · have := HPW.out.2.2.1; simp [World.cell?, Array.getElem?_eq_none h'] at this
            have hNg : some w.heap.size ≠ (Value.slice (some ⟨g, 0, none⟩) d.length cap).ownBlock := by simp [Value.ownBlock]; omega
            refine ⟨⟨?_, ?_, ?_, ?_⟩, hgN⟩
            · unfold Own; rw [cellsL_append, List.length_append]; exact hown1
            · exact ((below_drewN HPW.out.2.1 nq).alloc (by simp; omega) _).grown hgrow (by simp; omega) (by intro k hk; simp [Value.ownBlock] at hk; omega)
            · rw [hgrow.cell_far _ (by simp; omega) hNg]; exact kept_n (HPW.out.2.2.1) hlt0
            · rw [hgrow.cell_far _ (by simp; omega) hNg]; exact kept_n (HPW.out.2.2.2) hlt0
          have HPV := hid hpv
          clear hown1 hgrow hat hpv hg2 hi0 hz0 hz1 hz2 hful a1 a2
          go_wp2_with fail
          go_loopg [8] (d.length + 1) (fun gh s8 wr2 => ∃ (k : Nat) (dk : List (ByteArray × ByteArray)), s8 = .int .i64 k ∧ hi ≤ k ∧ k ≤ d.length ∧ k - hi ≤ gh ∧ PutV w base g2 (d.length + 1) cap2 dk (x1, x2) wr2 ∧ dk.length = d.length + 1 ∧ (∀ j, j < k → dk[j]? = d[j]?) ∧ (∀ j, k < j → dk[j]? = d[j - 1]?))
          case atStart =>
            refine ⟨d.length, _, by go_num, by omega, by omega, by omega, HPV.out, by simp, fun j hj => ?_, fun j hj => ?_⟩
            · rw [List.getElem?_append_left hj]
            · rw [List.getElem?_eq_none (by simp; omega), List.getElem?_eq_none (by omega)]
          case round =>
            obtain ⟨k, dk, rfl, hk1, hk2, hgh2, hv, hdl, hd1, hd2⟩ := hrel
            have HV := hid hv
            have HD := hid (And.intro hd1 hd2)
            clear hd1 hd2
            by_cases hgt : hi < k
            · obtain ⟨⟨p1, p2⟩, hp⟩ : ∃ y, dk[k - 1]'(by omega) = y := ⟨_, rfl⟩
              obtain ⟨e1, e2, _, _⟩ := zown_atL hv.1.1 (k - 1) (by omega)
              obtain ⟨f1, f2, f3, f4⟩ := zown_atL hv.1.1 k (by omega)
              rw [hp] at e1 e2
              have HP := hid hp
              clear hp hv
              generalize (dk[k]'(by omega)).1 = o1 at *
              generalize (dk[k]'(by omega)).2 = o2 at *
              have im1 : (0 : Int) ≤ ↑k - 1 := by omega
              have im2 : (↑k - 1 : Int) < ↑(d.length + 1) := by omega
              have im3 : (↑k : Int) < ↑(d.length + 1) := by omega
              go_wp2_with fail
              go_roundg (k - 1 - hi)
              case measure => omega
              case rel =>
                refine ⟨k - 1, dk.set k (p1, p2), by go_num, by omega, by omega, Nat.le_refl _, HV.out.store hbg2 k (by omega) p1 p2, by simp [hdl], fun j hj => ?_, fun j hj => ?_⟩
                · rw [List.getElem?_set_ne (by omega)]; exact HD.out.1 j (by omega)
                · by_cases hjk : j = k
                  · subst hjk
                    rw [List.getElem?_set_self (by omega), ← HD.out.1 (j - 1) (by omega), List.getElem?_eq_getElem (by omega), HP.out]
                  · rw [List.getElem?_set_ne (by omega)]; exact HD.out.2 j (by omega)
            · have hke : k = hi := by omega
              subst hke
              obtain ⟨f1, f2, f3, f4⟩ := zown_atL hv.1.1 k (by omega)
              obtain ⟨_, _, e1, e2⟩ := hv.1
              generalize (dk[k]'(by omega)).1 = o1 at *
              generalize (dk[k]'(by omega)).2 = o2 at *
              have im1 : (0 : Int) ≤ ↑k := by omega
              have im3 : (↑k : Int) < ↑(d.length + 1) := by omega
              go_wp2_with fail
              go_ret
              have hst := HV.out.store hbg2 k (by omega) x1 x2
              have hpl := put_list d dk (x1, x2) k (by omega) hdl HD.out.1 HD.out.2
              rw [hpl] at hst
              obtain ⟨hri, hmem⟩ := insert_rises d (x1, x2) k (by omega) HR.out HLO.out (fun j hj h => by
                have hx : ahead (x1, x2) d[k] := by
                  rcases ahead_total d[k] (x1, x2) with h' | h' | h'
                  · exact absurd h' (HHI.out k hin (Nat.le_refl _))
                  · rw [HY.out] at h'; exact absurd h' HX.out
                  · exact h'
                by_cases hjk : j = k
                · subst hjk; exact hx
                · exact ahead_trans hx (rises_lt HR.out k j (by omega) hj))
              exact ⟨_, _, rfl, hri, hmem, by simp; omega, hst.1.1, hst.1.2.1⟩
      · have hin' : decide ((hi : Int) < (d.length : Int)) = false := by simp; omega
        have hin2 : ¬ (hi : Int) < (d.length : Int) := by omega
        clear hpw
        go_wp2_with fail
        go_quiet (fail)
        obtain ⟨i0, hi0, hz0, hz1, hz2⟩ := info_parts Tryz.infoKey
        have hsz := HPW.out.2.1.size
        go_wp2_with (at_builtin; refine wpList_append_lies _ rfl _ _ 23 rfl base 31 i0 (.agg #[.string ⟨#[]⟩, .string ⟨#[]⟩]) 2 32 Tryz.underlying23 hi0 hz0 hz1 hz2 rfl (by decide) _ _ _ rfl (World.ownsRow.alloc HPW.out.1 _) ⟨wr.heap.size, 0, none⟩ 1 1 [.string ⟨#[]⟩, .string ⟨#[]⟩] rfl rfl ?c1 ?c2 (by decide) ?c3 ?c4 ?c5 (wr.heap.size + 1) ?c6 ?_)
        case c1 => exact two_new _ _ rfl _ _
        case c2 => intro u hu; simp at hu; subst hu; rfl
        case c3 => unfold maxLen; omega
        case c4 => omega
        case c5 => simp; omega
        case c6 => simp
        intro g2 cap2 w1 hown1 hgrow hat hg2
        have hgN : g2 ≠ w.heap.size := by
          rcases hat with h | h
          · simp [Value.ownBlock] at h; omega
          · omega
        have hbg2 : base ≤ g2 := (World.ownsRow.lt hown1 g2 rfl).1
        have hpv : PutV w base g2 (d.length + 1) cap2 (d ++ [(⟨#[]⟩, ⟨#[]⟩)]) (x1, x2) w1 := by
          have hlt0 : w.heap.size < wr.heap.size := by
            rcases Nat.lt_or_ge w.heap.size wr.heap.size with h' | h'
            · exact h'
            · have := HPW.out.2.2.1; simp [World.cell?, Array.getElem?_eq_none h'] at this
          have hNg : some w.heap.size ≠ (Value.slice (some ⟨g, 0, none⟩) d.length cap).ownBlock := by simp [Value.ownBlock]; omega
          refine ⟨⟨?_, ?_, ?_, ?_⟩, hgN⟩
          · unfold Own; rw [cellsL_append, List.length_append]; exact hown1
          · exact ((below_drewN HPW.out.2.1 nq).alloc (by simp; omega) _).grown hgrow (by simp; omega) (by intro k hk; simp [Value.ownBlock] at hk; omega)
          · rw [hgrow.cell_far _ (by simp; omega) hNg]; exact kept_n (HPW.out.2.2.1) hlt0
          · rw [hgrow.cell_far _ (by simp; omega) hNg]; exact kept_n (HPW.out.2.2.2) hlt0
        have HPV := hid hpv
        clear hown1 hgrow hat hpv hg2 hi0 hz0 hz1 hz2 
        go_wp2_with fail
        go_loopg [8] (d.length + 1) (fun gh s8 wr2 => ∃ (k : Nat) (dk : List (ByteArray × ByteArray)), s8 = .int .i64 k ∧ hi ≤ k ∧ k ≤ d.length ∧ k - hi ≤ gh ∧ PutV w base g2 (d.length + 1) cap2 dk (x1, x2) wr2 ∧ dk.length = d.length + 1 ∧ (∀ j, j < k → dk[j]? = d[j]?) ∧ (∀ j, k < j → dk[j]? = d[j - 1]?))
        case atStart =>
          refine ⟨d.length, _, by go_num, by omega, by omega, by omega, HPV.out, by simp, fun j hj => ?_, fun j hj => ?_⟩
          · rw [List.getElem?_append_left hj]
          · rw [List.getElem?_eq_none (by simp; omega), List.getElem?_eq_none (by omega)]
        case round =>
          obtain ⟨k, dk, rfl, hk1, hk2, hgh2, hv, hdl, hd1, hd2⟩ := hrel
          have HV := hid hv
          have HD := hid (And.intro hd1 hd2)
          clear hd1 hd2
          by_cases hgt : hi < k
          · exact absurd hgt (by omega)
          · have hke : k = hi := by omega
            subst hke
            obtain ⟨f1, f2, f3, f4⟩ := zown_atL hv.1.1 k (by omega)
            obtain ⟨_, _, e1, e2⟩ := hv.1
            generalize (dk[k]'(by omega)).1 = o1 at *
            generalize (dk[k]'(by omega)).2 = o2 at *
            have im1 : (0 : Int) ≤ ↑k := by omega
            have im3 : (↑k : Int) < ↑(d.length + 1) := by omega
            go_wp2_with fail
            go_ret
            have hst := HV.out.store hbg2 k (by omega) x1 x2
            have hpl := put_list d dk (x1, x2) k (by omega) hdl HD.out.1 HD.out.2
            rw [hpl] at hst
            obtain ⟨hri, hmem⟩ := insert_rises d (x1, x2) k (by omega) HR.out HLO.out (fun j hj h => absurd h (by omega))
            exact ⟨_, _, rfl, hri, hmem, by simp; omega, hst.1.1, hst.1.2.1⟩

set_option maxHeartbeats 1000000 in
theorem zput_nil (base : Nat) (x1 x2 : ByteArray) (w : World) (hbase : base ≤ w.heap.size) :
    Calls Tryz.prog 16 #[.slice none 0 0, .agg #[.string x1, .string x2]] w (PutPost base [] (x1, x2) w) := by
  go_enter Tryz.func16, Tryz.ntmps16
  go_wp2
  refine wp_loop_rounds 1 ?_
  rw [rounds_succ]
  go_wp2_with fail
  go_quiet (fail)
  obtain ⟨i0, hi0, hz0, hz1, hz2⟩ := info_parts Tryz.infoKey
  go_wp2_with (at_builtin; refine wpList_append_lies _ rfl _ _ 23 rfl base 31 i0 (.agg #[.string ⟨#[]⟩, .string ⟨#[]⟩]) 2 32 Tryz.underlying23 hi0 hz0 hz1 hz2 rfl (by decide) _ _ _ rfl (World.ownsRow_nil _ base 31 2) ⟨w.heap.size + 1, 0, none⟩ 1 1 [.string ⟨#[]⟩, .string ⟨#[]⟩] rfl rfl ?c1 ?c2 (by decide) ?c3 ?c4 ?c5 (w.heap.size + 2) ?c6 ?_)
  case c1 => exact two_new _ _ (by simp) _ _
  case c2 => intro u hu; simp at hu; subst hu; rfl
  case c3 => unfold maxLen; omega
  case c4 => omega
  case c5 => simp; omega
  case c6 => simp
  intro g2 cap2 w1 hown1 hgrow hat hg2
  have hg : g2 = w.heap.size + 2 := by
    rcases hat with h | h
    · simp [Value.ownBlock] at h
    · exact h
  have c0 : w1.cell? ⟨w.heap.size, 0, none⟩ = some (.string x1) := by
    rw [hgrow.cell_far _ (by simp; omega) (by simp [Value.ownBlock])]; simp [go_sem]
  have c1 : w1.cell? ⟨w.heap.size, 1, none⟩ = some (.string x2) := by
    rw [hgrow.cell_far _ (by simp; omega) (by simp [Value.ownBlock])]; simp [go_sem]
  have ho : Own w1 base (.slice (some ⟨g2, 0, none⟩) (0 + 1) cap2) [(⟨#[]⟩, ⟨#[]⟩)] := hown1
  have hb1 : Below base w w1 := (((below_drewN ((Below.refl _ _).alloc hbase _) _).alloc (by simp; omega) _).grown hgrow (by simp; omega) (by intro k hk; simp [Value.ownBlock] at hk))
  have hbg : base ≤ g2 := by omega
  obtain ⟨f1, f2, f3, f4⟩ := zown_atL ho 0 (by simp)
  have HO := hid ho
  have HB := hid hb1
  clear hown1 hgrow hat hg2 hi0 hz0 hz1 hz2 ho hb1 hg
  go_wp2_with fail
  refine wp_loop_rounds 1 ?_
  rw [rounds_succ]
  go_wp2_with fail
  go_ret
  have hst := zown_storeL HO.out 0 (by simp) x1 x2
  refine ⟨_, [(x1, x2)], rfl, List.pairwise_singleton _ _, fun y => by simp, by simp, ?_, (HB.out.setCell hbg _).setCell hbg _⟩
  exact hst

end Go.Proofs.YtinmagodckkedaaGreat.Z

/-
  Put of the reference, on keys of one's own.
-/
namespace Go.Proofs.YtinmagodckkedaaGreat
open Go.RowKit

theorem insR_len {α : Type} [DecidableEq α] (lt : α → α → Bool) (x : α) : ∀ l : List α, (insR lt x l).length ≤ l.length + 1
  | [] => by simp [insR]
  | y :: r => by
    unfold insR
    split
    · simp
    · split
      · simp
      · have := insR_len lt x r
        simp only [List.length_cons]
        omega

theorem told_snoc {α : Type} [DecidableEq α] (lt : α → α → Bool) (g : ByteArray → Option α) (ts : List ByteArray) (t : ByteArray) :
    toldBy lt g (ts ++ [t]) = match g t with | some x => insR lt x (toldBy lt g ts) | none => toldBy lt g ts := by
  unfold toldBy
  rw [List.foldl_append]
  rfl

theorem told_len {α : Type} [DecidableEq α] (lt : α → α → Bool) (g : ByteArray → Option α) (ts : List ByteArray) : (toldBy lt g ts).length ≤ ts.length := by
  have : ∀ (l : List ByteArray) (acc : List α), (l.foldl (fun acc t => match g t with | some x => insR lt x acc | none => acc) acc).length ≤ acc.length + l.length := by
    intro l
    induction l with
    | nil => intro acc; simp
    | cons t l ih =>
      intro acc
      rw [List.foldl_cons, List.length_cons]
      cases g t with
      | none => have := ih acc; simp only; omega
      | some x => have := ih (insR lt x acc); have := insR_len lt x acc; simp only; omega
  have h := this ts []
  rw [List.length_nil, Nat.zero_add] at h
  exact h

theorem kput_any (n0 : Nat) (v : Value) (l : List Ky) (x : Ky) (w : World) (h : KK.Own n0 w v l) (h0 : n0 ≤ w.heap.size) (hr : RisingR ltKy l) (hl : l.length ≤ 2000000) :
    Calls Tryz.prog 16 #[v, .agg #[.string x.1, .string x.2]] w fun e w' => ∃ u, e = .returned u ∧ KK.Own n0 w' u (insR ltKy x l) ∧ Below n0 w w' := by
  have key : ∀ e w', Z.PutPost n0 l (x.1, x.2) w e w' → ∃ u, e = .returned u ∧ KK.Own n0 w' u (insR ltKy x l) ∧ Below n0 w w' := by
    rintro e w' ⟨u, r, rfl, hri, hmem, _, hown, hb⟩
    refine ⟨u, rfl, ?_, hb⟩
    have : r = insR ltKy x l := rising_uniqR totK (z_rises hri) (rising_insR totK x hr) fun z => by rw [hmem z, mem_insR]
    rw [← this]
    exact hown
  rcases h.2 with ⟨hv, hz⟩ | ⟨g, cap, cur, hv, _⟩
  · obtain rfl := List.length_eq_zero_iff.1 hz
    subst hv
    exact (Z.zput_nil n0 x.1 x.2 w h0).mono key
  · subst hv
    exact (Z.zput_own g cap n0 l x.1 x.2 w h h0 (z_rises' hr) (by omega)).mono key

end Go.Proofs.YtinmagodckkedaaGreat

/-
  What Resolve answers (stage 5), and what it does not hang on: the mathematics, without the program.
-/
namespace Go.Proofs.YtinmagodckkedaaGreat
open Go.RowKit Go.Lib

def bindOK (b : Bd) : Bool := tempB b.1.data.toList && keyOK b.2
def unboundT (bs : List Bd) (t : ByteArray) : Bool := match tempT t with
  | some n => (boundT bs n).isNone
  | none => false

/-- The error of Resolve: nm a name that can't be, tw a name twice, tm a temporary name without a key. -/
def resCode (nm tw tm : Int) (bs : List Bd) (fs : List Fld) : Int :=
  if bs.all bindOK = false then nm else if ¬ (bs.map (·.1)).Nodup then tw else if (textsF fs).any (unboundT bs) then tm else 0

def resAns (bs : List Bd) (fs : List Fld) : List Fld :=
  if bs.all bindOK = true ∧ (bs.map (·.1)).Nodup ∧ (textsF fs).any (unboundT bs) = false then mapT (resT bs) fs else []

theorem all_same {α : Type} {p : α → Bool} {l m : List α} (h : ∀ x, x ∈ l ↔ x ∈ m) : l.all p = m.all p := by
  rw [Bool.eq_iff_iff, List.all_eq_true, List.all_eq_true]
  exact ⟨fun k x hx => k x ((h x).2 hx), fun k x hx => k x ((h x).1 hx)⟩

theorem unbound_turn {bs cs : List Bd} (h1 : (bs.map (·.1)).Nodup) (h2 : (cs.map (·.1)).Nodup) (hm : ∀ x, x ∈ bs ↔ x ∈ cs) : unboundT bs = unboundT cs := by
  funext t
  unfold unboundT
  cases tempT t with
  | none => rfl
  | some n => simp only [bound_turn h1 h2 hm n]

theorem perm_turn (bs : List Bd) (k : Nat) : (bs.drop k ++ bs.take k).Perm bs := by
  have h : (bs.drop k ++ bs.take k).Perm (bs.take k ++ bs.drop k) := List.perm_append_comm
  rwa [List.take_append_drop] at h

/-- The order of binds is no matter to Resolve. -/
theorem res_perm (nm tw tm : Int) {bs cs : List Bd} (h : bs.Perm cs) (fs : List Fld) : resCode nm tw tm bs fs = resCode nm tw tm cs fs ∧ resAns bs fs = resAns cs fs := by
  have hm : ∀ x, x ∈ bs ↔ x ∈ cs := fun x => h.mem_iff
  have hn : (bs.map (·.1)).Nodup ↔ (cs.map (·.1)).Nodup := (h.map _).nodup_iff
  have ha := all_same (p := bindOK) hm
  unfold resCode resAns
  rw [ha]
  by_cases k : (bs.map (·.1)).Nodup
  · have k' := hn.1 k
    rw [unbound_turn k k' hm, res_turn k k' hm]
    refine ⟨?_, ?_⟩
    · have n1 : ¬ ¬ (bs.map (·.1)).Nodup := fun e => e k
      have n2 : ¬ ¬ (cs.map (·.1)).Nodup := fun e => e k'
      rw [if_neg n1, if_neg n2]
    · by_cases c : cs.all bindOK = true ∧ (textsF fs).any (unboundT cs) = false
      · rw [if_pos ⟨c.1, k, c.2⟩, if_pos ⟨c.1, k', c.2⟩]
      · rw [if_neg (fun e => c ⟨e.1, e.2.2⟩), if_neg (fun e => c ⟨e.1, e.2.2⟩)]
  · have k' : ¬ (cs.map (·.1)).Nodup := fun e => k (hn.2 e)
    refine ⟨?_, ?_⟩
    · rw [if_pos k, if_pos k']
    · rw [if_neg (fun e => k e.2.1), if_neg (fun e => k' e.2.1)]

theorem res_ok {nm tw tm : Int} (h1 : nm ≠ 0) (h2 : tw ≠ 0) (h3 : tm ≠ 0) {bs : List Bd} {fs : List Fld} (h : resCode nm tw tm bs fs = 0) :
    (∀ b ∈ bs, keyOK b.2 = true) ∧ (bs.map (·.1)).Nodup ∧ allBound bs fs ∧ resAns bs fs = mapT (resT bs) fs := by
  unfold resCode at h
  split at h
  · exact absurd h h1
  · next ha =>
    split at h
    · exact absurd h h2
    · next hn =>
      split at h
      · exact absurd h h3
      · next hu =>
        have ha' : bs.all bindOK = true := by simpa using ha
        have hn' : (bs.map (·.1)).Nodup := Classical.not_not.1 hn
        have hu' : (textsF fs).any (unboundT bs) = false := by simpa using hu
        refine ⟨fun b hb => ?_, hn', fun f hf t ht n hn => ?_, ?_⟩
        · have := List.all_eq_true.1 ha' b hb
          simp only [bindOK, Bool.and_eq_true] at this
          exact this.2
        · have := List.any_eq_false.1 hu' t (mem_textsF.2 ⟨f, hf, ht⟩)
          unfold unboundT at this
          rw [hn] at this
          simp only at this
          cases hb : boundT bs n with
          | none => rw [hb] at this; simp at this
          | some k => rfl
        · unfold resAns
          rw [if_pos ⟨ha', hn', hu'⟩]

theorem res_bad {nm tw tm : Int} {bs : List Bd} {fs : List Fld} (h : resCode nm tw tm bs fs ≠ 0) : resAns bs fs = [] ∧ (resCode nm tw tm bs fs = nm ∨ resCode nm tw tm bs fs = tw ∨ resCode nm tw tm bs fs = tm) := by
  unfold resCode at h ⊢
  unfold resAns
  by_cases ha : bs.all bindOK = false
  · rw [if_neg (by rw [ha]; simp), if_pos ha]
    exact ⟨rfl, Or.inl rfl⟩
  · rw [if_neg ha] at h ⊢
    by_cases hn : ¬ (bs.map (·.1)).Nodup
    · rw [if_neg (fun k => hn k.2.1), if_pos hn]
      exact ⟨rfl, Or.inr (Or.inl rfl)⟩
    · rw [if_neg hn] at h ⊢
      by_cases hu : (textsF fs).any (unboundT bs) = true
      · rw [if_neg (fun k => by rw [hu] at k; exact absurd k.2.2 (by simp)), if_pos hu]
        exact ⟨rfl, Or.inr (Or.inr rfl)⟩
      · rw [if_neg hu] at h
        exact absurd rfl h

/-- Behind Resolve a value's keys are those that it had, and those of the names that it used. -/
theorem res_union {bs : List Bd} (hk : ∀ b ∈ bs, keyOK b.2 = true) (hn : (bs.map (·.1)).Nodup) {fs : List Fld} (h : allBound bs fs) (k : Ky) :
    k ∈ keysF (mapT (resT bs) fs) ↔ k ∈ keysF fs ∨ ∃ n ∈ tempsF fs, (n, k) ∈ bs := by
  rw [mem_keysF, mem_keysF, res_points hk h k]
  constructor
  · rintro (e | ⟨f, hf, t, ht, n, e, hb⟩)
    · exact Or.inl e
    · exact Or.inr ⟨n, mem_tempsF.2 ⟨f, hf, t, ht, e⟩, bound_mem hb⟩
  · rintro (e | ⟨n, hm, hb⟩)
    · exact Or.inl e
    · obtain ⟨f, hf, t, ht, e⟩ := mem_tempsF.1 hm
      exact Or.inr ⟨f, hf, t, ht, n, e, bound_of hn hb⟩

/-- RefsUnions' own way of putting them together. -/
def unionB (bs : List Bd) (ns : List ByteArray) (ks : List Ky) : List Ky :=
  ns.foldl (fun acc n => bs.foldl (fun acc b => if b.1 = n then insR ltKy b.2 acc else acc) acc) ks

theorem union_one (bs : List Bd) (n : ByteArray) : ∀ ks : List Ky, RisingR ltKy ks → RisingR ltKy (bs.foldl (fun acc b => if b.1 = n then insR ltKy b.2 acc else acc) ks) ∧ ∀ z, z ∈ bs.foldl (fun acc b => if b.1 = n then insR ltKy b.2 acc else acc) ks ↔ z ∈ ks ∨ (n, z) ∈ bs := by
  induction bs with
  | nil => intro ks h; exact ⟨h, fun z => by simp⟩
  | cons b r ih =>
    intro ks h
    simp only [List.foldl_cons]
    by_cases e : b.1 = n
    · rw [if_pos e]
      obtain ⟨h1, h2⟩ := ih _ (rising_insR totK b.2 h)
      refine ⟨h1, fun z => ?_⟩
      rw [h2 z, mem_insR, List.mem_cons]
      obtain ⟨b1, b2⟩ := b
      simp only at e ⊢
      subst e
      constructor
      · rintro ((rfl | h) | h)
        · exact Or.inr (Or.inl rfl)
        · exact Or.inl h
        · exact Or.inr (Or.inr h)
      · rintro (h | h | h)
        · exact Or.inl (Or.inr h)
        · exact Or.inl (Or.inl (Prod.mk.inj h).2)
        · exact Or.inr h
    · rw [if_neg e]
      obtain ⟨h1, h2⟩ := ih _ h
      refine ⟨h1, fun z => ?_⟩
      rw [h2 z, List.mem_cons]
      constructor
      · rintro (h | h)
        · exact Or.inl h
        · exact Or.inr (Or.inr h)
      · rintro (h | h | h)
        · exact Or.inl h
        · exact absurd (by rw [← h]) e
        · exact Or.inr h

theorem union_all (bs : List Bd) (ns : List ByteArray) : ∀ ks : List Ky, RisingR ltKy ks → RisingR ltKy (unionB bs ns ks) ∧ ∀ z, z ∈ unionB bs ns ks ↔ z ∈ ks ∨ ∃ n ∈ ns, (n, z) ∈ bs := by
  induction ns with
  | nil => intro ks h; exact ⟨h, fun z => by simp [unionB]⟩
  | cons n r ih =>
    intro ks h
    obtain ⟨g1, g2⟩ := union_one bs n ks h
    obtain ⟨h1, h2⟩ := ih _ g1
    refine ⟨h1, fun z => ?_⟩
    have : unionB bs (n :: r) ks = unionB bs r (bs.foldl (fun acc b => if b.1 = n then insR ltKy b.2 acc else acc) ks) := rfl
    rw [this, h2 z, g2 z]
    constructor
    · rintro ((h | h) | ⟨m, hm, h⟩)
      · exact Or.inl h
      · exact Or.inr ⟨n, by simp, h⟩
      · exact Or.inr ⟨m, List.mem_cons_of_mem _ hm, h⟩
    · rintro (h | ⟨m, hm, h⟩)
      · exact Or.inl (Or.inl h)
      · rcases List.mem_cons.1 hm with rfl | hm
        · exact Or.inl (Or.inr h)
        · exact Or.inr ⟨m, hm, h⟩

theorem res_unionB {bs : List Bd} (hk : ∀ b ∈ bs, keyOK b.2 = true) (hn : (bs.map (·.1)).Nodup) {fs : List Fld} (h : allBound bs fs) :
    keysF (mapT (resT bs) fs) = unionB bs (tempsF fs) (keysF fs) := by
  obtain ⟨h1, h2⟩ := union_all bs (tempsF fs) (keysF fs) (told_rising totK _ _)
  exact rising_uniqR totK (told_rising totK _ _) h1 fun z => by rw [h2 z]; exact res_union hk hn h z

end Go.Proofs.YtinmagodckkedaaGreat

/-
  A map from names to keys, made of binds: what it holds, how it is looked up, and how long it is.
-/
namespace Go.Proofs.YtinmagodckkedaaGreat
open Go.RowKit Go.Lib Go.Maps Go.MapKept Go.ChangeMaps

def keyD (k : Ky) : DataW Unit := .agg [.lit (.string k.1.data.toList), .lit (.string k.2.data.toList)]
def keyElem (v : Value) : Option (DataW Unit × List MemPlace) := match v with
  | .agg c => match c.toList with
    | [.string a, .string b] => some (keyD (a, b), [])
    | _ => none
  | _ => none

theorem keyElem_mk (k : Ky) : keyElem (.agg #[.string k.1, .string k.2]) = some (keyD k, []) := rfl

theorem keyD_inj {a b : Ky} (h : keyD a = keyD b) : a = b := by
  unfold keyD at h
  simp only [DataW.agg.injEq, List.cons.injEq, DataW.lit.injEq, Lit.string.injEq, and_true] at h
  exact Prod.ext (ba_eq h.1) (ba_eq h.2)

theorem keyElem_inv {v : Value} {k : Ky} {ps : List MemPlace} (h : keyElem v = some (keyD k, ps)) : v = .agg #[.string k.1, .string k.2] := by
  unfold keyElem at h
  split at h
  · next c =>
    split at h
    · next a b hc =>
      simp only [Option.some.injEq, Prod.mk.injEq] at h
      have := keyD_inj h.1
      subst this
      have : c = #[.string a, .string b] := by
        apply Array.ext'
        rw [hc]
      rw [this]
    · cases h
  · cases h

def nameL (n : ByteArray) : Lit := .string n.data.toList
theorem nameL_inj {a b : ByteArray} (h : nameL a = nameL b) : a = b := by
  unfold nameL at h
  injection h with h
  exact ba_eq h

def mapD (bs : List Bd) : DataW Unit := bs.foldl (fun m x => m.put (nameL x.1) (keyD x.2)) (.map [])
theorem mapD_snoc (bs : List Bd) (x : Bd) : mapD (bs ++ [x]) = (mapD bs).put (nameL x.1) (keyD x.2) := by simp [mapD]

theorem keyedStr : Keyed Tryz.prog 9 := string_keyed Tryz.underlying9
theorem name_key {n : ByteArray} (hs : n.size ≤ maxLen) : keyOf Tryz.prog 9 (.string n) = some (nameL n) := WideMaps.keyOf_string_mk Tryz.underlying9 hs
theorem name_lit {n : ByteArray} (hs : n.size ≤ maxLen) : WideAt.IsKeyLit (nameL n) := keyedStr.key (name_key hs)

def FitB (bs : List Bd) : Prop := ∀ b ∈ bs, b.1.size ≤ maxLen

theorem mapD_tidy : ∀ (bs : List Bd), FitB bs → Tidy (mapD bs) := by
  intro bs
  have : ∀ l : List Bd, FitB l.reverse → Tidy (mapD l.reverse) := by
    intro l
    induction l with
    | nil => intro _; exact tidy_empty
    | cons x r ih =>
      intro h
      rw [List.reverse_cons] at h ⊢
      rw [mapD_snoc]
      exact (ih fun b hb => h b (List.mem_append_left _ hb)).put (name_lit (h x (by simp))) _
  intro h
  have := this bs.reverse (by rw [List.reverse_reverse]; exact h)
  rwa [List.reverse_reverse] at this

theorem fitB_init {bs : List Bd} {x : Bd} (h : FitB (bs ++ [x])) : FitB bs ∧ x.1.size ≤ maxLen := ⟨fun b hb => h b (List.mem_append_left _ hb), h x (by simp)⟩

theorem snoc_ind {α : Type} {p : List α → Prop} (h0 : p []) (h1 : ∀ l x, p l → p (l ++ [x])) : ∀ l, p l := by
  intro l
  have : ∀ l : List α, p l.reverse := by
    intro l
    induction l with
    | nil => exact h0
    | cons x r ih => rw [List.reverse_cons]; exact h1 _ _ ih
  have := this l.reverse
  rwa [List.reverse_reverse] at this

theorem mapD_has (n : ByteArray) : ∀ (bs : List Bd), FitB bs → has (mapD bs) (nameL n) = bs.any fun b => decide (b.1 = n) := by
  refine snoc_ind (fun _ => rfl) fun bs x ih h => ?_
  obtain ⟨h1, h2⟩ := fitB_init h
  rw [mapD_snoc, List.any_append]
  by_cases e : x.1 = n
  · subst e
    rw [has_put_same (mapD_tidy bs h1).isMap (name_lit h2)]
    simp
  · rw [has_put_other (fun k => e (nameL_inj k).symm), ih h1]
    simp [e]

theorem mapD_size : ∀ (bs : List Bd), FitB bs → size (mapD bs) ≤ bs.length ∧ (size (mapD bs) = bs.length ↔ (bs.map (·.1)).Nodup) := by
  refine snoc_ind (fun _ => by simp [mapD, size]) fun bs x ih h => ?_
  obtain ⟨h1, h2⟩ := fitB_init h
  obtain ⟨i1, i2⟩ := ih h1
  rw [mapD_snoc, size_put (mapD_tidy bs h1), mapD_has x.1 bs h1, List.length_append, List.map_append]
  have hmem : (bs.any fun b => decide (b.1 = x.1)) = true ↔ x.1 ∈ bs.map (·.1) := by
    rw [List.any_eq_true, List.mem_map]
    constructor
    · rintro ⟨b, hb, e⟩; exact ⟨b, hb, of_decide_eq_true e⟩
    · rintro ⟨b, hb, e⟩; exact ⟨b, hb, decide_eq_true e⟩
  cases ha : bs.any fun b => decide (b.1 = x.1) with
  | true =>
    rw [if_pos rfl]
    refine ⟨by simp; omega, ⟨fun e => ?_, fun e => ?_⟩⟩
    · simp at e; omega
    · have := List.nodup_append.1 e
      exact absurd rfl (this.2.2 x.1 (hmem.1 ha) x.1 (by simp))
  | false =>
    rw [if_neg (by simp)]
    refine ⟨by simp; omega, ⟨fun e => ?_, fun e => ?_⟩⟩
    · have e' : size (mapD bs) = bs.length := by simp at e; exact e
      refine List.nodup_append.2 ⟨i2.1 e', by simp, fun a ha' b hb => ?_⟩
      simp at hb
      rintro rfl
      rw [hb] at ha'
      rw [hmem.2 ha'] at ha
      cases ha
    · have := i2.2 (List.nodup_append.1 e).1
      simp [this]

theorem mapD_at (n : ByteArray) (z : DataW Unit) : ∀ (bs : List Bd), FitB bs → (bs.map (·.1)).Nodup → (mapD bs).atKey (nameL n) z = match boundT bs n with | some k => keyD k | none => z := by
  refine snoc_ind (fun _ _ => rfl) fun bs x ih h hn => ?_
  obtain ⟨h1, h2⟩ := fitB_init h
  rw [List.map_append] at hn
  have hn1 := (List.nodup_append.1 hn).1
  have hx : x.1 ∉ bs.map (·.1) := fun e => (List.nodup_append.1 hn).2.2 x.1 e x.1 (by simp) rfl
  rw [mapD_snoc]
  by_cases e : x.1 = n
  · subst e
    rw [atKey_put_same (mapD_tidy bs h1).isMap (name_lit h2)]
    have : boundT (bs ++ [x]) x.1 = some x.2 := bound_of (by rw [List.map_append]; exact hn) (by simp)
    rw [this]
  · rw [atKey_put_other (fun k => e (nameL_inj k).symm), ih h1 hn1]
    have : boundT (bs ++ [x]) n = boundT bs n := by
      unfold boundT
      rw [List.find?_append]
      cases bs.find? fun b => decide (b.1 = n) with
      | some y => rfl
      | none => simp [e]
    rw [this]

theorem bound_any (n : ByteArray) (bs : List Bd) : (boundT bs n).isSome = bs.any fun b => decide (b.1 = n) := by
  unfold boundT
  rw [Option.isSome_map, Bool.eq_iff_iff, List.find?_isSome, List.any_eq_true]

/-- Block b is the map of the binds. -/
def MapB (W : World) (b : Nat) (bs : List Bd) : Prop := W.ownsMap Tryz.prog 9 keyElem b bs.length (mapD bs)

theorem mapB_made (w : World) : MapB (w.alloc (.map #[] 0)) w.heap.size [] := World.ownsMap_made _ _ _ _
theorem MapB.on {W W' : World} {b : Nat} {bs : List Bd} (h : MapB W b bs) (hb : Below W.heap.size W W') : MapB W' b bs := by
  have hlt := World.ownsMap.lt h
  obtain ⟨es, clock, h1, h2⟩ := h
  exact ⟨es, clock, (hb.block b hlt).trans h1, h2⟩

theorem zeroKy (w : World) : (zeroValue 31).run Tryz.prog w = .ok (.agg #[.string ⟨#[]⟩, .string ⟨#[]⟩]) w := Tryz.zeroValue31 w

def keyOr (o : Option Ky) : Ky := o.getD (⟨#[]⟩, ⟨#[]⟩)

theorem mapB_look {W : World} {b : Nat} {bs : List Bd} (h : MapB W b bs) (hf : FitB bs) (hn : (bs.map (·.1)).Nodup) {n : ByteArray} (hs : n.size ≤ maxLen) :
    (Instr.lookup 59 (.map (some b)) (.string n) true).run Tryz.prog W = .ok (.tuple #[.agg #[.string (keyOr (boundT bs n)).1, .string (keyOr (boundT bs n)).2], .bool (boundT bs n).isSome]) W := by
  obtain ⟨v, ps, hrun, hv⟩ := World.ownsMap.look_ok h keyedStr Tryz.underlying59 (zeroKy W) (keyElem_mk (⟨#[]⟩, ⟨#[]⟩)) (name_key hs)
  rw [mapD_at n _ bs hf hn] at hv
  rw [mapD_has n bs hf, ← bound_any] at hrun
  rw [hrun]
  cases hb : boundT bs n with
  | none => rw [hb] at hv; rw [keyElem_inv hv]; rfl
  | some k => rw [hb] at hv; rw [keyElem_inv hv]; rfl

theorem mapB_get {W : World} {b : Nat} {bs : List Bd} (h : MapB W b bs) (hf : FitB bs) (hn : (bs.map (·.1)).Nodup) {n : ByteArray} (hs : n.size ≤ maxLen) :
    (Instr.lookup 59 (.map (some b)) (.string n) false).run Tryz.prog W = .ok (.agg #[.string (keyOr (boundT bs n)).1, .string (keyOr (boundT bs n)).2]) W := by
  obtain ⟨v, ps, hrun, hv⟩ := World.ownsMap.lookup h keyedStr Tryz.underlying59 (zeroKy W) (keyElem_mk (⟨#[]⟩, ⟨#[]⟩)) (name_key hs)
  rw [mapD_at n _ bs hf hn] at hv
  rw [hrun]
  cases hb : boundT bs n with
  | none => rw [hb] at hv; rw [keyElem_inv hv]; rfl
  | some k => rw [hb] at hv; rw [keyElem_inv hv]; rfl

theorem mapB_put {W : World} {b : Nat} {bs : List Bd} (h : MapB W b bs) (hl : bs.length < maxLen) (x : Bd) (hs : x.1.size ≤ maxLen) :
    ∃ W', (Instr.mapUpdate 59 (.map (some b)) (.string x.1) (.agg #[.string x.2.1, .string x.2.2])).run Tryz.prog W = .ok () W' ∧ MapB W' b (bs ++ [x]) ∧ W.grownBy W' (some b) := by
  obtain ⟨W', h1, h2, h3⟩ := World.ownsMap.update h keyedStr Tryz.underlying59 hl (name_key hs) (keyElem_mk x.2)
  refine ⟨W', h1, ?_, h3⟩
  unfold MapB
  rw [mapD_snoc, List.length_append]
  exact h2

theorem mapB_len {W : World} {b : Nat} {bs : List Bd} (h : MapB W b bs) (ty : TypeId) : (Builtin.len_ #[59] ty #[.map (some b)]).run Tryz.prog W = .ok (.int .i64 (size (mapD bs))) W :=
  World.ownsMap.len h Tryz.underlying59 ty

end Go.Proofs.YtinmagodckkedaaGreat

/-
  The contracts of Named, Temp, bound and put of the reference.
-/
namespace Go.Proofs.YtinmagodckkedaaGreat
open Go.RowKit

theorem byte_ne {c d : UInt8} (h : c ≠ d) : ((c.toNat : Int) != (d.toNat : Int)) = true := by
  rw [bne_iff_ne]
  intro e
  exact h (UInt8.toNat_inj.1 (by omega))

set_option maxHeartbeats 1000000 in
theorem rnamed_is (t : ByteArray) (hs : t.size ≤ maxLen) :
    ∃ (k : Ky) (b : Bool), NAns t k b ∧ ∀ w, Calls Tryz.prog 12 #[.string t] w fun e w' => e = .returned (.tuple #[.agg #[.string k.1, .string k.2], .bool b]) ∧ Below w.heap.size w w' := by
  rcases named_byte t with ⟨⟨h0, h1⟩, h3⟩ | ⟨h1, h3⟩
  · obtain ⟨k, c, hp⟩ := pans_is (t.extract 1 t.size)
    have HC := hid (fun w => rparse_is (t.extract 1 t.size) (ext_size t 1 t.size hs) hp w)
    have hb : ∃ b : Bool, NAns t k b ∧ (c == 0) = b := by
      rcases hp with ⟨hp, rfl⟩ | ⟨hp, _, rfl⟩
      · exact ⟨true, Or.inl ⟨h3.trans hp, rfl⟩, rfl⟩
      · exact ⟨false, Or.inr ⟨h3.trans hp, rfl⟩, rfl⟩
    obtain ⟨b, hn, he⟩ := hb
    refine ⟨k, b, hn, fun w => ?_⟩
    have hz : ((t.size : Int) == 0) = false := by rw [beq_eq_false_iff_ne]; omega
    have hz1 : (1 : Int) ≤ (t.size : Int) := by omega
    have hc : ((t[0].toNat : Int) != 42) = false := by rw [h1]; rfl
    clear hp hn h3
    obtain ⟨k1, k2⟩ := k
    simp only at HC ⊢
    go_enter Tryz.func12, Tryz.ntmps12
    go_wp2_with fail
    refine (HC.out _).mono ?_
    rintro e w2 ⟨rfl, hb2⟩
    obtain ⟨q0, q1, q2, q3⟩ := box_two (n1 := 0) hb2
    go_wp2_with fail
    exact bodyPost_ret (v := .tuple #[.agg #[.string k1, .string k2], .bool b]) (by simp [results, Tryz.results12, go_sem, q0, q1]) rfl
      ⟨rfl, (((((Below.refl _ _).alloc (Nat.le_refl _) _).trans (hb2.mono (by simp))).alloc (by have := hb2.size; simp at this; omega) _).setCell (by simp) _).setCell (by simp) _⟩
  · refine ⟨(⟨#[]⟩, ⟨#[]⟩), false, Or.inr ⟨h3, rfl⟩, fun w => ?_⟩
    clear h3
    by_cases h0 : 0 < t.size
    · have hz : ((t.size : Int) == 0) = false := by rw [beq_eq_false_iff_ne]; omega
      have hz1 : (0 : Int) < (t.size : Int) := by omega
      have hc : ((t[0].toNat : Int) != 42) = true := byte_ne (h1 h0)
      clear h1
      go_enter Tryz.func12, Tryz.ntmps12
      go_wp2_with fail
      exact bodyPost_ret (v := .tuple #[.agg #[.string ⟨#[]⟩, .string ⟨#[]⟩], .bool false]) (by simp [results, Tryz.results12, go_sem]) rfl
        ⟨rfl, (Below.refl _ _).alloc (Nat.le_refl _) _⟩
    · have hz : ((t.size : Int) == 0) = true := by have : t.size = 0 := by omega
                                                   rw [this]; rfl
      clear h1
      go_enter Tryz.func12, Tryz.ntmps12
      go_wp2_with fail
      exact bodyPost_ret (v := .tuple #[.agg #[.string ⟨#[]⟩, .string ⟨#[]⟩], .bool false]) (by simp [results, Tryz.results12, go_sem]) rfl
        ⟨rfl, (Below.refl _ _).alloc (Nat.le_refl _) _⟩

set_option maxHeartbeats 1000000 in
theorem rtempT_is (t : ByteArray) (hs : t.size ≤ maxLen) :
    ∃ (r : ByteArray) (b : Bool), TAns t r b ∧ ∀ w, Calls Tryz.prog 22 #[.string t] w fun e w' => e = .returned (.tuple #[.string r, .bool b]) ∧ w' = w := by
  rcases temp_byte t with ⟨⟨h1, b0, b1⟩, h3⟩ | ⟨h1, h3⟩
  · have hz : ¬ (t.size : Int) < 2 := by omega
    have hz1 : (2 : Int) ≤ (t.size : Int) := by omega
    have hc0 : ((t[0].toNat : Int) != 42) = false := by rw [b0]; rfl
    have hc1 : ((t[1].toNat : Int) != 64) = false := by rw [b1]; rfl
    have HT := hid (fun w => rtemp_any (t.extract 2 t.size) w (ext_size t 2 t.size hs))
    cases hB : tempB (t.extract 2 t.size).data.toList with
    | true =>
      rw [hB, if_pos rfl] at h3
      rw [hB] at HT
      refine ⟨t.extract 2 t.size, true, Or.inl ⟨h3, rfl⟩, fun w => ?_⟩
      clear h3
      go_enter Tryz.func22, Tryz.ntmps22
      go_wp2_with fail
      refine (HT.out _).mono ?_
      rintro e w2 ⟨rfl, rfl⟩
      go_wp2_with fail
      go_ret2
      exact ⟨rfl, rfl⟩
    | false =>
      rw [hB, if_neg (by simp)] at h3
      rw [hB] at HT
      refine ⟨⟨#[]⟩, false, Or.inr ⟨h3, rfl⟩, fun w => ?_⟩
      clear h3
      go_enter Tryz.func22, Tryz.ntmps22
      go_wp2_with fail
      refine (HT.out _).mono ?_
      rintro e w2 ⟨rfl, rfl⟩
      go_wp2_with fail
      go_ret2
      exact ⟨rfl, rfl⟩
  · refine ⟨⟨#[]⟩, false, Or.inr ⟨h3, rfl⟩, fun w => ?_⟩
    clear h3
    by_cases h2 : 1 < t.size
    · have hz : ¬ (t.size : Int) < 2 := by omega
      have hz0 : (0 : Int) < (t.size : Int) := by omega
      have hz1 : (1 : Int) < (t.size : Int) := by omega
      by_cases b0 : t[0] = 42
      · have hc0 : ((t[0].toNat : Int) != 42) = false := by rw [b0]; rfl
        have hc1 : ((t[1].toNat : Int) != 64) = true := byte_ne (h1 h2 b0)
        clear h1 b0
        go_enter Tryz.func22, Tryz.ntmps22
        go_wp2_with fail
        go_ret2
        exact ⟨rfl, rfl⟩
      · have hc0 : ((t[0].toNat : Int) != 42) = true := byte_ne b0
        clear h1 b0
        go_enter Tryz.func22, Tryz.ntmps22
        go_wp2_with fail
        go_ret2
        exact ⟨rfl, rfl⟩
    · have hz : (t.size : Int) < 2 := by omega
      clear h1
      go_enter Tryz.func22, Tryz.ntmps22
      go_wp2_with fail
      go_ret2
      exact ⟨rfl, rfl⟩

set_option maxHeartbeats 4000000 in
set_option maxRecDepth 100000 in
theorem rput_any (n0 : Nat) (v : Value) (l : List ByteArray) (s : ByteArray) (w : World) (h : KT.Own n0 w v l) (h0 : n0 ≤ w.heap.size) (hr : RisingR ltB l) (hl : l.length ≤ 2000000) :
    Calls Tryz.prog 23 #[v, .string s] w fun e w' => ∃ u, e = .returned u ∧ KT.Own n0 w' u (insR ltB s l) ∧ Below n0 w w' := by
  obtain ⟨p, cap, rfl⟩ := Kind.own_shape h
  have HO := hid h
  obtain ⟨p', cap', he, hd⟩ := Kind.own_is h
  injection he with e1 e2 e3
  subst e1 e3
  have HD := hid hd
  have HR := hid hr
  clear h hd hr
  go_enter Tryz.func23, Tryz.ntmps23
  go_wp2_with fail
  go_loopg [5, 6] l.length (fun gh s5 s6 wr => ∃ lo hi : Nat, s5 = .int .i64 lo ∧ s6 = .int .i64 hi ∧ lo ≤ hi ∧ hi ≤ l.length ∧ hi - lo ≤ gh ∧ w = wr ∧ Hid (∀ j, (h : j < l.length) → j < lo → ltB l[j] s = true) ∧ Hid (∀ j, (h : j < l.length) → hi ≤ j → ltB l[j] s = false))
  case atStart => exact ⟨0, l.length, rfl, rfl, by omega, by omega, by omega, rfl, fun j _ h => by omega, fun j h h' => by omega⟩
  case round =>
    obtain ⟨lo, hi, rfl, rfl, hle, hhi, hgh, rfl, HL, HH⟩ := hrel
    by_cases hlt : lo < hi
    · have hltz : (lo : Int) < (hi : Int) := by omega
      obtain ⟨m, hm⟩ : ∃ m, m = (lo + hi) / 2 := ⟨_, rfl⟩
      have hm1 : lo ≤ m := by omega
      have hm2 : m < hi := by omega
      have hmz : ((lo : Int) + (hi : Int)) / 2 = (m : Int) := by omega
      have hmt : ((lo : Int) + (hi : Int)).tdiv 2 = (m : Int) := by rw [Int.tdiv_eq_ediv_of_nonneg (by omega)]; exact hmz
      have hml : m < l.length := by omega
      obtain ⟨b, off, rfl, hat⟩ : ∃ b off, p = some ⟨b, off, none⟩ ∧ KT.At w b off l := by
        rcases HD.out with h | h
        · rw [h] at hml; simp at hml
        · exact h
      have c0 := kt_at.1 hat m hml
      have im1 : (0 : Int) ≤ (m : Int) := by omega
      have im2 : (m : Int) < (l.length : Int) := by omega
      have HLO : Hid (ltB l[m] s = true → ∀ j, (h : j < l.length) → j < m + 1 → ltB l[j] s = true) := fun e j h hj => rising_low totB HR.out hml e j (by omega)
      have HHI : Hid (ltB l[m] s = false → ∀ j, (h : j < l.length) → m ≤ j → ltB l[j] s = false) := fun e j h hj => rising_high totB HR.out hml e j hj h
      obtain ⟨y, hy⟩ : ∃ y, l[m] = y := ⟨_, rfl⟩
      rw [hy] at c0 HLO HHI
      clear hat hy hm
      cases hc : ltB y s with
      | true =>
        have hcs := sless_of hc
        have HLX := hid (HLO.out hc)
        clear hc
        go_wp2_with fail
        go_roundg (hi - (m + 1))
        case measure => omega
        exact ⟨m + 1, hi, by go_num, rfl, by omega, by omega, Nat.le_refl _, rfl, HLX.out, HH.out⟩
      | false =>
        have hcs := sless_of hc
        have HHX := hid (HHI.out hc)
        clear hc
        go_wp2_with fail
        go_roundg (m - lo)
        case measure => omega
        exact ⟨lo, m, rfl, rfl, by omega, by omega, Nat.le_refl _, rfl, HL.out, HHX.out⟩
    · have hltz : ¬ (lo : Int) < (hi : Int) := by omega
      have hlh : lo = hi := by omega
      subst hlh
      by_cases hin : lo < l.length
      · have hinz : (lo : Int) < (l.length : Int) := by omega
        have hiz : (0 : Int) ≤ (lo : Int) := by omega
        obtain ⟨b, off, rfl, hat⟩ : ∃ b off, p = some ⟨b, off, none⟩ ∧ KT.At w b off l := by
          rcases HD.out with h | h
          · rw [h] at hin; simp at hin
          · exact h
        have c0 := kt_at.1 hat lo hin
        by_cases hxy : l[lo] = s
        · have HT := hid (put_there totB HR.out hin hxy)
          rw [hxy] at c0
          have heb := seq_true (rfl : s = s)
          clear hat hxy
          go_wp2_with fail
          go_ret
          refine ⟨_, rfl, ?_, Below.refl _ _⟩
          rw [HT.out]
          exact HO.out
        · have HNEW := hid (put_new totB (x := s) (l := l) (p := lo) (by omega) (fun j h h' => HL.out j h' h) (fun h => HH.out lo h (Nat.le_refl _)) (fun _ => hxy))
          have heb := seq_false hxy
          obtain ⟨y, hy⟩ : ∃ y, l[lo] = y := ⟨_, rfl⟩
          rw [hy] at c0 heb
          clear hat hxy hy
          obtain ⟨i0, hi0, hz0, hz1, hz2⟩ := info_parts Tryz.infoStr
          have HI := hid hi0
          clear hi0
          go_wp2_with (at_builtin; refine wpList_append_own _ rfl _ _ 28 rfl n0 9 i0 (.string ⟨#[]⟩) 1 16 Tryz.underlying28 HI.out hz0 hz1 hz2 rfl (by decide) _ _ _ rfl (World.ownsRow.alloc HO.out _) _ 1 1 [.string ⟨#[]⟩] rfl rfl (fun j u hj => KT.newsN w ⟨#[]⟩ _ rfl j u hj) (by intro u hu; simp at hu; subst hu; rfl) (by unfold maxLen; omega) (by omega) (by simp; omega) ?_; intro v4 w4 hown4 hg4 hnil4; have HB4 : Hid (Below n0 w w4) := ((Below.refl n0 w).alloc h0 _).grown hg4 (by simp; omega) (fun k hk => (World.ownsRow.lt HO.out k hk).1); have HO4 : Hid (KT.Own n0 w4 v4 (l ++ [⟨#[]⟩])) := Kind.own_snoc (K := KT) (d := l) (x := ⟨#[]⟩) hown4 rfl (by rw [kt_cells]; rfl); clear hown4 hg4 hnil4; obtain ⟨p4, c4, rfl⟩ := Kind.own_shape HO4.out; obtain ⟨g4, hp4, hn4, _, _, _⟩ := Kind.own_form HO4.out (by simp); subst hp4)
          go_loopg [8] (l.length + 1) (fun gh s8 wr2 => ∃ (k : Nat) (y : ByteArray), s8 = .int .i64 k ∧ lo ≤ k ∧ k ≤ l.length ∧ k - lo ≤ gh ∧ Hid (KT.Own n0 wr2 (.slice (some ⟨g4, 0, none⟩) (l.length + 1) c4) (l.take k ++ y :: l.drop k)) ∧ Hid (Below n0 w wr2))
          case atStart =>
            refine ⟨l.length, ⟨#[]⟩, by go_num, by omega, by omega, by omega, ?_, HB4.out⟩
            have e : l.take l.length ++ ⟨#[]⟩ :: l.drop l.length = l ++ [⟨#[]⟩] := by simp
            show KT.Own _ _ _ _
            rw [e]
            simpa using HO4.out
          case round =>
            clear HO4 HB4
            obtain ⟨k, y, rfl, hk1, hk2, hgk, HOK, HBK⟩ := hrel
            have hlen : (l.take k ++ y :: l.drop k).length = l.length + 1 := by simp; omega
            by_cases hgt : lo < k
            · have hgz : (lo : Int) < (k : Int) := by omega
              have e0 : (l.take k ++ y :: l.drop k)[k - 1]'(by omega) = l[k - 1]'(by omega) := by
                rw [List.getElem_append_left (by rw [List.length_take]; omega)]
                simp
              have a1 := kt_at.1 (Kind.own_at HOK.out) (k - 1) (by omega)
              have a2 := kt_at.1 (Kind.own_at HOK.out) k (by omega)
              rw [e0] at a1
              rw [Nat.zero_add] at a1 a2
              have f2 := Kind.own_free HOK.out k
              obtain ⟨z, hz⟩ : ∃ z, l[k - 1]'(by omega) = z := ⟨_, rfl⟩
              obtain ⟨old, hold⟩ : ∃ old, (l.take k ++ y :: l.drop k)[k]'(by omega) = old := ⟨_, rfl⟩
              rw [hz] at a1
              rw [hold] at a2
              have HP : Hid (KT.Own n0 (wr.setCell ⟨g4, k, none⟩ (.string z)) (.slice (some ⟨g4, 0, none⟩) (l.length + 1) c4) (l.take (k - 1) ++ z :: l.drop (k - 1))) := by
                have h1 := Kind.own_put1 (K := KT) rfl HOK.out hlen k (by omega) z (.string z) rfl
                have h2 := shift_step l y lo k hgt hk2
                rw [hz] at h2
                rw [h2] at h1
                exact h1
              have i1 : (0 : Int) ≤ (k : Int) - 1 := by omega
              have i2 : (k : Int) - 1 < ((l.length + 1 : Nat) : Int) := by omega
              have i3 : (k : Int) < ((l.length + 1 : Nat) : Int) := by omega
              have i4 : (0 : Int) ≤ (k : Int) := by omega
              have i5 : ((k : Int) - 1).toNat = k - 1 := by omega
              clear e0 hz hold hlen
              go_wp2_with fail
              go_roundg (k - 1 - lo)
              case measure => omega
              refine ⟨k - 1, z, by go_num, by omega, by omega, Nat.le_refl _, HP.out, HBK.out.setCell (p := ⟨g4, k, none⟩) hn4 _⟩
            · have hgz : ¬ (lo : Int) < (k : Int) := by omega
              have hke : k = lo := by omega
              subst hke
              have a2 := kt_at.1 (Kind.own_at HOK.out) k (by omega)
              rw [Nat.zero_add] at a2
              have f2 := Kind.own_free HOK.out k
              obtain ⟨old, hold⟩ : ∃ old, (l.take k ++ y :: l.drop k)[k]'(by omega) = old := ⟨_, rfl⟩
              rw [hold] at a2
              have HP : Hid (KT.Own n0 (wr.setCell ⟨g4, k, none⟩ (.string s)) (.slice (some ⟨g4, 0, none⟩) (l.length + 1) c4) (insR ltB s l)) := by
                have h1 := Kind.own_put1 (K := KT) rfl HOK.out hlen k (by omega) s (.string s) rfl
                have h2 : (l.take k ++ y :: l.drop k).set k s = l.take k ++ s :: l.drop k := by
                  rw [List.set_append_right _ _ (by rw [List.length_take]; omega)]
                  have : k - (l.take k).length = 0 := by rw [List.length_take]; omega
                  rw [this]; rfl
                rw [h2, ← HNEW.out] at h1
                exact h1
              have i3 : (k : Int) < ((l.length + 1 : Nat) : Int) := by omega
              have i4 : (0 : Int) ≤ (k : Int) := by omega
              clear hold hlen
              go_wp2_with fail
              go_ret
              exact ⟨_, rfl, HP.out, HBK.out.setCell (p := ⟨g4, k, none⟩) hn4 _⟩
      · have hinz : ¬ (lo : Int) < (l.length : Int) := by omega
        have HNEW := hid (put_new totB (x := s) (l := l) (p := lo) (by omega) (fun j h h' => HL.out j h' h) (fun h => absurd h hin) (fun h => absurd h hin))
        obtain ⟨i0, hi0, hz0, hz1, hz2⟩ := info_parts Tryz.infoStr
        have HI := hid hi0
        clear hi0
        go_wp2_with (at_builtin; refine wpList_append_own _ rfl _ _ 28 rfl n0 9 i0 (.string ⟨#[]⟩) 1 16 Tryz.underlying28 HI.out hz0 hz1 hz2 rfl (by decide) _ _ _ rfl (World.ownsRow.alloc HO.out _) _ 1 1 [.string ⟨#[]⟩] rfl rfl (fun j u hj => KT.newsN w ⟨#[]⟩ _ rfl j u hj) (by intro u hu; simp at hu; subst hu; rfl) (by unfold maxLen; omega) (by omega) (by simp; omega) ?_; intro v4 w4 hown4 hg4 hnil4; have HB4 : Hid (Below n0 w w4) := ((Below.refl n0 w).alloc h0 _).grown hg4 (by simp; omega) (fun k hk => (World.ownsRow.lt HO.out k hk).1); have HO4 : Hid (KT.Own n0 w4 v4 (l ++ [⟨#[]⟩])) := Kind.own_snoc (K := KT) (d := l) (x := ⟨#[]⟩) hown4 rfl (by rw [kt_cells]; rfl); clear hown4 hg4 hnil4; obtain ⟨p4, c4, rfl⟩ := Kind.own_shape HO4.out; obtain ⟨g4, hp4, hn4, _, _, _⟩ := Kind.own_form HO4.out (by simp); subst hp4)
        go_loopg [8] (l.length + 1) (fun gh s8 wr2 => ∃ (k : Nat) (y : ByteArray), s8 = .int .i64 k ∧ lo ≤ k ∧ k ≤ l.length ∧ k - lo ≤ gh ∧ Hid (KT.Own n0 wr2 (.slice (some ⟨g4, 0, none⟩) (l.length + 1) c4) (l.take k ++ y :: l.drop k)) ∧ Hid (Below n0 w wr2))
        case atStart =>
          refine ⟨l.length, ⟨#[]⟩, by go_num, by omega, by omega, by omega, ?_, HB4.out⟩
          have e : l.take l.length ++ ⟨#[]⟩ :: l.drop l.length = l ++ [⟨#[]⟩] := by simp
          show KT.Own _ _ _ _
          rw [e]
          simpa using HO4.out
        case round =>
          clear HO4 HB4
          obtain ⟨k, y, rfl, hk1, hk2, hgk, HOK, HBK⟩ := hrel
          have hlen : (l.take k ++ y :: l.drop k).length = l.length + 1 := by simp; omega
          by_cases hgt : lo < k
          · exact absurd hgt (by omega)
          · have hgz : ¬ (lo : Int) < (k : Int) := by omega
            have hke : k = lo := by omega
            subst hke
            have a2 := kt_at.1 (Kind.own_at HOK.out) k (by omega)
            rw [Nat.zero_add] at a2
            have f2 := Kind.own_free HOK.out k
            obtain ⟨old, hold⟩ : ∃ old, (l.take k ++ y :: l.drop k)[k]'(by omega) = old := ⟨_, rfl⟩
            rw [hold] at a2
            have HP : Hid (KT.Own n0 (wr.setCell ⟨g4, k, none⟩ (.string s)) (.slice (some ⟨g4, 0, none⟩) (l.length + 1) c4) (insR ltB s l)) := by
              have h1 := Kind.own_put1 (K := KT) rfl HOK.out hlen k (by omega) s (.string s) rfl
              have h2 : (l.take k ++ y :: l.drop k).set k s = l.take k ++ s :: l.drop k := by
                rw [List.set_append_right _ _ (by rw [List.length_take]; omega)]
                have : k - (l.take k).length = 0 := by rw [List.length_take]; omega
                rw [this]; rfl
              rw [h2, ← HNEW.out] at h1
              exact h1
            have i3 : (k : Int) < ((l.length + 1 : Nat) : Int) := by omega
            have i4 : (0 : Int) ≤ (k : Int) := by omega
            clear hold hlen
            go_wp2_with fail
            go_ret
            exact ⟨_, rfl, HP.out, HBK.out.setCell (p := ⟨g4, k, none⟩) hn4 _⟩

end Go.Proofs.YtinmagodckkedaaGreat

/-
  The contracts of Keys and Temps of the reference.
-/
namespace Go.Proofs.YtinmagodckkedaaGreat
open Go.RowKit

set_option maxHeartbeats 4000000 in
set_option maxRecDepth 100000 in
theorem rkeys_any (v : Value) (d : List Fx) (w : World) (hv : IsXs w v d) (hf : FitX d) (hT : (txtsX d).length ≤ 2000000) :
    Calls Tryz.prog 5 #[v] w fun e w' => ∃ u, e = .returned u ∧ KK.Own w.heap.size w' u (keysF (d.map Fx.fld)) ∧ Below w.heap.size w w' := by
  obtain ⟨p, cap, rfl, hd, ht⟩ := hv
  have HD := hid hd
  have HX := hid ht
  have HF := hid hf.2
  have hl := hf.1
  unfold maxLen at hl
  have HTOT := hid hT
  unfold keysF
  rw [txtsX_flds]
  clear hd ht hf hT
  go_enter Tryz.func5, Tryz.ntmps5
  go_wp2_with fail
  go_loopg [3, 4] d.length (fun g vs vi wr => ∃ i : Nat, vi = .int .i64 i ∧ i ≤ d.length ∧ d.length - i ≤ g ∧ Hid (Below w.heap.size w wr) ∧ Hid (KK.Own w.heap.size wr vs (toldBy ltKy namedT (txtsX (d.take i)))))
  case atStart => exact ⟨0, rfl, by omega, by omega, Below.refl _ _, World.ownsRow_nil _ _ _ _⟩
  case round =>
    obtain ⟨i, rfl, hi, hgk, HB, HO⟩ := hrel
    by_cases hlt : i < d.length
    · have hltz : (i : Int) < (d.length : Int) := by omega
      have hiz : (0 : Int) ≤ i := by omega
      obtain ⟨b, off, rfl, hxs⟩ : ∃ b off, p = some ⟨b, off, none⟩ ∧ XsAt w b off d := by
        rcases HD.out with h | h
        · subst h; simp at hlt
        · exact h
      have hxi : (d[i]).at w := HX.out _ (List.getElem_mem hlt)
      have hfi := HF.out _ (List.getElem_mem hlt)
      have hsu := txtsX_succ d i hlt
      have hpa := txtsX_part d (i + 1)
      have htot := HTOT.out
      have hxc : ∀ W, Below w.heap.size w W → W.cell? ⟨b, off + i * 2 + 1, none⟩ = some (d[i]).sl := fun W hW => (hxs.kept hW i hlt).2
      obtain ⟨x, hx⟩ : ∃ x, d[i] = x := ⟨_, rfl⟩
      rw [hx] at hxi hfi hsu hxc
      rw [hsu, List.length_append] at hpa
      obtain ⟨nm, p5, c5, ts⟩ := x
      simp only [Fx.at, Fx.sl, Fx.fld] at hxi hfi hsu hpa hxc
      obtain ⟨acc, hacc⟩ : ∃ acc, (txtsX (d.take i)) = acc := ⟨_, rfl⟩
      rw [hacc] at HO hsu hpa
      have hts : acc.length + ts.length ≤ 2000000 := by omega
      have HSU := hid hsu
      have HXI := hid hxi
      have HFI := hid hfi
      have HXC := hid hxc
      clear hxs hxi hfi hx hsu hpa htot hacc hxc
      go_wp2_with fail
      go_loopg [3, 5] ts.length (fun g vs vj wr2 => ∃ j : Nat, vj = .int .i64 j ∧ j ≤ ts.length ∧ ts.length - j ≤ g ∧ Hid (Below w.heap.size w wr2) ∧ Hid (KK.Own w.heap.size wr2 vs (toldBy ltKy namedT (acc ++ ts.take j))))
      case atStart => exact ⟨0, rfl, by omega, by omega, HB.out, by show KK.Own _ _ _ _; simpa using HO.out⟩
      case round =>
        clear HB HO
        obtain ⟨j, rfl, hj, hgj, HB, HO⟩ := hrel
        have c1 := HXC.out wr HB.out
        by_cases hlj : j < ts.length
        · have hljz : (j : Int) < (ts.length : Int) := by omega
          have hjz : (0 : Int) ≤ j := by omega
          obtain ⟨b2, o2, rfl, ht2⟩ : ∃ b o, p5 = some ⟨b, o, none⟩ ∧ ∀ i, (h : i < ts.length) → w.cell? ⟨b, o + i, none⟩ = some (.string ts[i]) := by
            rcases HXI.out with h | h
            · rw [h] at hlj; simp at hlj
            · exact h
          have t0 : wr.cell? ⟨b2, o2 + j, none⟩ = some (.string ts[j]) := (HB.out.cell (p := ⟨b2, o2 + j, none⟩) (cell_block (ht2 j hlj))).trans (ht2 j hlj)
          have htz := HFI.out.2.2 _ (List.getElem_mem hlj)
          have hst : acc ++ ts.take (j + 1) = (acc ++ ts.take j) ++ [ts[j]] := by rw [List.take_succ_eq_append_getElem hlj, List.append_assoc]
          obtain ⟨t, hte⟩ : ∃ t, ts[j] = t := ⟨_, rfl⟩
          rw [hte] at t0 htz hst
          have hal : (toldBy ltKy namedT (acc ++ ts.take j)).length ≤ 2000000 := by
            refine Nat.le_trans (told_len _ _ _) ?_
            rw [List.length_append, List.length_take]; omega
          have hri := told_rising totK namedT (acc ++ ts.take j)
          obtain ⟨k, bb, hN, hcall⟩ := rnamed_is t htz
          have HC := hid hcall
          have hfm : toldBy ltKy namedT (acc ++ ts.take (j + 1)) = if bb then insR ltKy k (toldBy ltKy namedT (acc ++ ts.take j)) else toldBy ltKy namedT (acc ++ ts.take j) := by
            rw [hst, told_snoc]
            rcases hN with ⟨h, rfl⟩ | ⟨h, rfl⟩
            · rw [h]; rfl
            · rw [h]; rfl
          obtain ⟨L, hL⟩ : ∃ L, toldBy ltKy namedT (acc ++ ts.take j) = L := ⟨_, rfl⟩
          rw [hL] at HO hal hfm hri
          have HFM := hid hfm
          have HRI := hid hri
          clear ht2 htz hst hN hcall hfm hte hL hri
          cases bb with
          | true =>
            go_wp2_with fail
            refine (HC.out _).mono ?_
            rintro e w5 ⟨rfl, hq5⟩
            have HB5 := hid ((bel_then HB.out HB.out.size hq5).alloc (bel_then HB.out HB.out.size hq5).size (.cells #[.string k.1, .string k.2] 31))
            have HO5 := hid (Kind.own_on (Kind.own_on HO.out hq5) ((Below.refl _ w5).alloc (Nat.le_refl _) (.cells #[.string k.1, .string k.2] 31)))
            have hsz5 := HB5.out.size
            clear hq5 HO
            go_wp2_with fail
            refine (kput_any w.heap.size _ L k _ HO5.out hsz5 HRI.out hal).mono ?_
            rintro e w6 ⟨u6, rfl, ho6, hq6⟩
            have HO6 := hid ho6
            have HB6 := hid (HB5.out.trans hq6)
            clear ho6 hq6
            go_wp2_with fail
            go_roundg (ts.length - (j + 1))
            case measure => omega
            refine ⟨j + 1, by go_num, by omega, by omega, HB6.out, ?_⟩
            rw [HFM.out]
            exact HO6.out
          | false =>
            go_wp2_with fail
            refine (HC.out _).mono ?_
            rintro e w5 ⟨rfl, hq5⟩
            have HB5 := hid ((bel_then HB.out HB.out.size hq5).alloc (bel_then HB.out HB.out.size hq5).size (.cells #[.string k.1, .string k.2] 31))
            have HO5 := hid (Kind.own_on (Kind.own_on HO.out hq5) ((Below.refl _ w5).alloc (Nat.le_refl _) (.cells #[.string k.1, .string k.2] 31)))
            clear hq5 HO
            go_wp2_with fail
            go_roundg (ts.length - (j + 1))
            case measure => omega
            refine ⟨j + 1, by go_num, by omega, by omega, HB5.out, ?_⟩
            rw [HFM.out]
            exact HO5.out
        · have hljz : ¬ (j : Int) < (ts.length : Int) := by omega
          have hjt : acc ++ ts.take j = txtsX (d.take (i + 1)) := by rw [HSU.out, List.take_of_length_le (by omega)]
          rw [hjt] at HO
          clear hjt
          go_wp2_with fail
          go_roundg (d.length - (i + 1))
          case measure => omega
          exact ⟨i + 1, by go_num, by omega, by omega, HB.out, HO.out⟩
    · have hltz : ¬ (i : Int) < (d.length : Int) := by omega
      have hti : d.take i = d := List.take_of_length_le (by omega)
      rw [hti] at HO
      clear hti
      go_wp2_with fail
      go_ret
      exact ⟨_, rfl, HO.out, HB.out⟩

set_option maxHeartbeats 4000000 in
set_option maxRecDepth 100000 in
theorem rtemps_any (v : Value) (d : List Fx) (w : World) (hv : IsXs w v d) (hf : FitX d) (hT : (txtsX d).length ≤ 2000000) :
    Calls Tryz.prog 10 #[v] w fun e w' => ∃ u, e = .returned u ∧ KT.Own w.heap.size w' u (tempsF (d.map Fx.fld)) ∧ Below w.heap.size w w' := by
  obtain ⟨p, cap, rfl, hd, ht⟩ := hv
  have HD := hid hd
  have HX := hid ht
  have HF := hid hf.2
  have hl := hf.1
  unfold maxLen at hl
  have HTOT := hid hT
  unfold tempsF
  rw [txtsX_flds]
  clear hd ht hf hT
  go_enter Tryz.func10, Tryz.ntmps10
  go_wp2_with fail
  go_loopg [3, 4] d.length (fun g vs vi wr => ∃ i : Nat, vi = .int .i64 i ∧ i ≤ d.length ∧ d.length - i ≤ g ∧ Hid (Below w.heap.size w wr) ∧ Hid (KT.Own w.heap.size wr vs (toldBy ltB tempT (txtsX (d.take i)))))
  case atStart => exact ⟨0, rfl, by omega, by omega, Below.refl _ _, World.ownsRow_nil _ _ _ _⟩
  case round =>
    obtain ⟨i, rfl, hi, hgk, HB, HO⟩ := hrel
    by_cases hlt : i < d.length
    · have hltz : (i : Int) < (d.length : Int) := by omega
      have hiz : (0 : Int) ≤ i := by omega
      obtain ⟨b, off, rfl, hxs⟩ : ∃ b off, p = some ⟨b, off, none⟩ ∧ XsAt w b off d := by
        rcases HD.out with h | h
        · subst h; simp at hlt
        · exact h
      have hxi : (d[i]).at w := HX.out _ (List.getElem_mem hlt)
      have hfi := HF.out _ (List.getElem_mem hlt)
      have hsu := txtsX_succ d i hlt
      have hpa := txtsX_part d (i + 1)
      have htot := HTOT.out
      have hxc : ∀ W, Below w.heap.size w W → W.cell? ⟨b, off + i * 2 + 1, none⟩ = some (d[i]).sl := fun W hW => (hxs.kept hW i hlt).2
      obtain ⟨x, hx⟩ : ∃ x, d[i] = x := ⟨_, rfl⟩
      rw [hx] at hxi hfi hsu hxc
      rw [hsu, List.length_append] at hpa
      obtain ⟨nm, p5, c5, ts⟩ := x
      simp only [Fx.at, Fx.sl, Fx.fld] at hxi hfi hsu hpa hxc
      obtain ⟨acc, hacc⟩ : ∃ acc, (txtsX (d.take i)) = acc := ⟨_, rfl⟩
      rw [hacc] at HO hsu hpa
      have hts : acc.length + ts.length ≤ 2000000 := by omega
      have HSU := hid hsu
      have HXI := hid hxi
      have HFI := hid hfi
      have HXC := hid hxc
      clear hxs hxi hfi hx hsu hpa htot hacc hxc
      go_wp2_with fail
      go_loopg [3, 5] ts.length (fun g vs vj wr2 => ∃ j : Nat, vj = .int .i64 j ∧ j ≤ ts.length ∧ ts.length - j ≤ g ∧ Hid (Below w.heap.size w wr2) ∧ Hid (KT.Own w.heap.size wr2 vs (toldBy ltB tempT (acc ++ ts.take j))))
      case atStart => exact ⟨0, rfl, by omega, by omega, HB.out, by show KT.Own _ _ _ _; simpa using HO.out⟩
      case round =>
        clear HB HO
        obtain ⟨j, rfl, hj, hgj, HB, HO⟩ := hrel
        have c1 := HXC.out wr HB.out
        by_cases hlj : j < ts.length
        · have hljz : (j : Int) < (ts.length : Int) := by omega
          have hjz : (0 : Int) ≤ j := by omega
          obtain ⟨b2, o2, rfl, ht2⟩ : ∃ b o, p5 = some ⟨b, o, none⟩ ∧ ∀ i, (h : i < ts.length) → w.cell? ⟨b, o + i, none⟩ = some (.string ts[i]) := by
            rcases HXI.out with h | h
            · rw [h] at hlj; simp at hlj
            · exact h
          have t0 : wr.cell? ⟨b2, o2 + j, none⟩ = some (.string ts[j]) := (HB.out.cell (p := ⟨b2, o2 + j, none⟩) (cell_block (ht2 j hlj))).trans (ht2 j hlj)
          have htz := HFI.out.2.2 _ (List.getElem_mem hlj)
          have hst : acc ++ ts.take (j + 1) = (acc ++ ts.take j) ++ [ts[j]] := by rw [List.take_succ_eq_append_getElem hlj, List.append_assoc]
          obtain ⟨t, hte⟩ : ∃ t, ts[j] = t := ⟨_, rfl⟩
          rw [hte] at t0 htz hst
          have hal : (toldBy ltB tempT (acc ++ ts.take j)).length ≤ 2000000 := by
            refine Nat.le_trans (told_len _ _ _) ?_
            rw [List.length_append, List.length_take]; omega
          have hri := told_rising totB tempT (acc ++ ts.take j)
          obtain ⟨k, bb, hN, hcall⟩ := rtempT_is t htz
          have HC := hid hcall
          have hfm : toldBy ltB tempT (acc ++ ts.take (j + 1)) = if bb then insR ltB k (toldBy ltB tempT (acc ++ ts.take j)) else toldBy ltB tempT (acc ++ ts.take j) := by
            rw [hst, told_snoc]
            rcases hN with ⟨h, rfl⟩ | ⟨h, rfl⟩
            · rw [h]; rfl
            · rw [h]; rfl
          obtain ⟨L, hL⟩ : ∃ L, toldBy ltB tempT (acc ++ ts.take j) = L := ⟨_, rfl⟩
          rw [hL] at HO hal hfm hri
          have HFM := hid hfm
          have HRI := hid hri
          clear ht2 htz hst hN hcall hfm hte hL hri
          cases bb with
          | true =>
            go_wp2_with fail
            refine (HC.out _).mono ?_
            rintro e w5 ⟨rfl, rfl⟩
            have HB5 := HB
            have HO5 := HO
            have hsz5 := HB5.out.size
            clear HO
            go_wp2_with fail
            refine (rput_any w.heap.size _ L k _ HO5.out hsz5 HRI.out hal).mono ?_
            rintro e w6 ⟨u6, rfl, ho6, hq6⟩
            have HO6 := hid ho6
            have HB6 := hid (HB5.out.trans hq6)
            clear ho6 hq6
            go_wp2_with fail
            go_roundg (ts.length - (j + 1))
            case measure => omega
            refine ⟨j + 1, by go_num, by omega, by omega, HB6.out, ?_⟩
            rw [HFM.out]
            exact HO6.out
          | false =>
            go_wp2_with fail
            refine (HC.out _).mono ?_
            rintro e w5 ⟨rfl, rfl⟩
            have HB5 := HB
            have HO5 := HO
            clear HO
            go_wp2_with fail
            go_roundg (ts.length - (j + 1))
            case measure => omega
            refine ⟨j + 1, by go_num, by omega, by omega, HB5.out, ?_⟩
            rw [HFM.out]
            exact HO5.out
        · have hljz : ¬ (j : Int) < (ts.length : Int) := by omega
          have hjt : acc ++ ts.take j = txtsX (d.take (i + 1)) := by rw [HSU.out, List.take_of_length_le (by omega)]
          rw [hjt] at HO
          clear hjt
          go_wp2_with fail
          go_roundg (d.length - (i + 1))
          case measure => omega
          exact ⟨i + 1, by go_num, by omega, by omega, HB.out, HO.out⟩
    · have hltz : ¬ (i : Int) < (d.length : Int) := by omega
      have hti : d.take i = d := List.take_of_length_le (by omega)
      rw [hti] at HO
      clear hti
      go_wp2_with fail
      go_ret
      exact ⟨_, rfl, HO.out, HB.out⟩

end Go.Proofs.YtinmagodckkedaaGreat
