/-
  Texts of this claim, one behind the other: Rsa Zless Zputa Zput Rkp Run.
-/
import Derived.Test.YtinmagodckkedabPd
import Derived.Test.YtinmagodckkedabPc
import Derived.Deep.CutRange
import Derived.Deep.AppendLies
import Derived.BigQuiet
import Derived.Test.YtinmagodckkedabPb
import Derived.Deep.RegionHeld3
import Derived.Deep.DrawnRows
import Derived.Deep.LoopGhost
import Derived.OwnWalk
/-
  An append at a step of a region that draws its order.
-/
namespace Go.Proofs.Ytinmagodckkedab
open Go.RowKit Go.Lib

/-- An append of a row that came in, whatever its length, at a step of a region that draws its order. -/
theorem step_append_ky {ops : Array Oper} {o : Oper} {a : Act} {K : Act → World → Prop} {Q : Exit → Act → World → Prop} {E : Prop} (w : World) (hgd : o.guard = none) (s x : Operand) (t : TypeId)
    (ho : o.op = .call { callee := .builtin .append, args := #[s, x], argTypes := #[t, t] })
    (base : Nat) (e : TypeId) (i : TypeInfo) (z : Value) (size bytes : Nat) (ht : Try.prog.underlying t = some (.slice e)) (hi : Try.prog.info? e = some i) (hz : i.zero = some z)
    (hsize : i.size = size) (hby : i.bytes = bytes) (hzs : z.cells.size = size) (hsz : 0 < size)
    (v : Value) (n : Nat) (xs : List Value) (hs : a.eval s = v) (hown : w.ownsRow base e size v n xs)
    (p : Option Addr) (m c : Nat) (news : List Value) (hx : a.eval x = .slice p m c) (hl : news.length = m * size)
    (hsrc : m = 0 ∨ ∃ ad, p = some ad ∧ ∀ j u, news[j]? = some u → w.cell? (ad.add j) = some u) (h1 : ∀ u ∈ news, u.oneCell' = true)
    (h63 : n + m ≤ maxLen) (hbytes : (n + m) * bytes ≤ 140737488355328) (hbase : base ≤ w.heap.size)
    (h : ∀ v' w', w'.ownsRow base e size v' (n + m) (xs ++ news) → w.grownBy w' v.ownBlock → K (a.put o.dst v') w') :
    if Region.wanted o (yielded ops a.tmps) = true then Oper.wp Try.prog o a w K Q else E := by
  by_cases hm : m = 0
  · have hw : Region.wanted o (yielded ops a.tmps) = true := by simp [Region.wanted, hgd]
    rw [if_pos hw]
    subst hm
    have hn : news = [] := List.length_eq_zero_iff.1 (by simpa using hl)
    subst hn
    obtain ⟨q, cap, hv, hcap, hq⟩ : ∃ q cap, v = .slice q n cap ∧ n ≤ cap ∧ (q = none → n = 0 ∧ cap = 0) := by
      rcases hown.2 with ⟨hv, h0⟩ | ⟨g, cap, cur, hv, _, _, hc, _⟩
      · exact ⟨none, 0, by rw [hv, h0], by omega, fun _ => ⟨h0, rfl⟩⟩
      · exact ⟨_, cap, hv, hc, fun h => by cases h⟩
    have hrun : (Builtin.append_ #[t, t] o.type #[.slice q n cap, .slice p 0 c]).run Try.prog w = .ok (.slice q n cap) w := by
      cases q with
      | none =>
        obtain ⟨rfl, rfl⟩ := hq rfl
        cases p <;> simp [Builtin.append_, run_underlying ht, Builtin.lenOf, Builtin.firstCells, sizeOf, typeInfo, hi, loadCells, loadCellsFrom]
      | some q =>
        cases p <;> simp [Builtin.append_, run_underlying ht, Builtin.lenOf, Builtin.firstCells, sizeOf, typeInfo, hi, storeCells, loadCells, loadCellsFrom, hcap]
    rw [hv] at hs
    unfold Oper.wp
    simp [execOp, ho, resolve, invoke, builtin, hs, hx, hrun, Result.andThen]
    refine h _ _ ?_ (grownBy_refl _ _)
    rw [← hv, List.append_nil]
    exact hown
  · rcases hsrc with h0 | ⟨ad, rfl, hc⟩
    · exact absurd h0 hm
    · exact step_append_lies w hgd s x t ho base e i z size bytes ht hi hz hsize hby hzs hsz v n xs hs hown ad m c news hx hl hc h1 (by omega) h63 hbytes hbase _ rfl (fun g cap w' h2 h3 _ _ => h _ w' h2 h3)

end Go.Proofs.Ytinmagodckkedab

/-
  The contract of the reference's Less.
-/
namespace Go.Proofs.Ytinmagodckkedab.Z
open Go.RowKit

theorem less_eq (a b c d : ByteArray) : (Op.bytesLess a.toList c.toList || (a.toList == c.toList && Op.bytesLess b.toList d.toList)) = decide (cmpI a b c d < 0) := by
  rw [Lib.toList_data, Lib.toList_data, Lib.toList_data, Lib.toList_data]
  exact (cmpL_less _ _ _ _).symm

set_option maxHeartbeats 400000 in
theorem zless_any (a b c d : ByteArray) (w : World) :
    Calls Try.prog 21 #[.agg #[.string a, .string b], .agg #[.string c, .string d]] w fun e w' => e = .returned (.bool (decide (cmpI a b c d < 0))) ∧ Below w.heap.size w w' := by
  have HE : Hid ((Op.bytesLess a.toList c.toList || (a.toList == c.toList && Op.bytesLess b.toList d.toList)) = decide (cmpI a b c d < 0)) := less_eq a b c d
  have hb : Below w.heap.size w ((w.alloc (.cells #[.string a, .string b] 33)).alloc (.cells #[.string c, .string d] 33)) := ((Below.refl _ _).alloc (Nat.le_refl _) _).alloc (by simp) _
  have HB := hid hb
  clear hb
  cases h1 : Op.bytesLess a.toList c.toList
  · cases h2 : (a.toList == c.toList)
    · go_enter Try.func21, Try.ntmps21
      go_wp2
      go_ret
      exact ⟨ret_bool (by rw [← HE.out, h1, h2]; rfl), HB.out⟩
    · go_enter Try.func21, Try.ntmps21
      go_wp2
      go_ret
      exact ⟨ret_bool (by rw [← HE.out, h1, h2]; rfl), HB.out⟩
  · go_enter Try.func21, Try.ntmps21
    go_wp2
    go_ret
    exact ⟨ret_bool (by rw [← HE.out, h1]; rfl), HB.out⟩

end Go.Proofs.Ytinmagodckkedab.Z

/-
  A key more in a rising list, in plain lists; and a row of keys under small changes.
-/
namespace Go.Proofs.Ytinmagodckkedab.Z
open Go.RowKit

theorem rises_lt {d : List (ByteArray × ByteArray)} (h : Rises d) (i j : Nat) (hij : i < j) (hj : j < d.length) : ahead (d[i]'(by omega)) d[j] :=
  List.pairwise_iff_getElem.1 h i j (by omega) hj hij

theorem insert_rises (d : List (ByteArray × ByteArray)) (x : ByteArray × ByteArray) (p : Nat) (hp : p ≤ d.length) (hd : Rises d)
    (hlo : ∀ j, (hj : j < d.length) → j < p → ahead d[j] x) (hhi : ∀ j, (hj : j < d.length) → p ≤ j → ahead x d[j]) :
    Rises (d.take p ++ x :: d.drop p) ∧ ∀ y, y ∈ d.take p ++ x :: d.drop p ↔ y = x ∨ y ∈ d := by
  refine ⟨?_, fun y => ?_⟩
  · refine List.pairwise_append.2 ⟨hd.sublist (List.take_sublist _ _), List.pairwise_cons.2 ⟨fun y hy => ?_, hd.sublist (List.drop_sublist _ _)⟩, fun a ha b hb => ?_⟩
    · obtain ⟨j, hj, rfl⟩ := List.mem_iff_getElem.1 hy
      rw [List.getElem_drop]
      exact hhi _ _ (by omega)
    · obtain ⟨i, hi, rfl⟩ := List.mem_iff_getElem.1 ha
      rw [List.length_take] at hi
      rw [List.getElem_take]
      have hax := hlo i (by omega) (by omega)
      rcases List.mem_cons.1 hb with rfl | hb
      · exact hax
      · obtain ⟨j, hj, rfl⟩ := List.mem_iff_getElem.1 hb
        rw [List.getElem_drop]
        exact ahead_trans hax (hhi _ (by simp at hj; omega) (by omega))
  · have := List.take_append_drop p d
    constructor
    · intro h
      rcases List.mem_append.1 h with h | h
      · exact .inr (List.mem_of_mem_take h)
      · rcases List.mem_cons.1 h with h | h
        · exact .inl h
        · exact .inr (List.mem_of_mem_drop h)
    · rintro (rfl | h)
      · exact List.mem_append_right _ (List.mem_cons_self ..)
      · rw [← this] at h
        rcases List.mem_append.1 h with h | h
        · exact List.mem_append_left _ h
        · exact List.mem_append_right _ (List.mem_cons_of_mem _ h)

theorem zown_storeL {w : World} {base g n cap : Nat} {d : List (ByteArray × ByteArray)} (h : Own w base (.slice (some ⟨g, 0, none⟩) n cap) d) (i : Nat) (hi : i < d.length) (a b : ByteArray) :
    Own ((w.setCell ⟨g, i * 2, none⟩ (.string a)).setCell ⟨g, i * 2 + 1, none⟩ (.string b)) base (.slice (some ⟨g, 0, none⟩) n cap) (d.set i (a, b)) := by
  obtain ⟨rfl, _⟩ := h.keysAt
  have h1 := (World.ownsRow.stored h (i * 2) (.string a)).1
  have h2 := (World.ownsRow.stored h1 (i * 2 + 1) (.string b)).1
  rw [cellsL_set _ _ _ _ hi] at h2
  unfold Own
  rw [List.length_set]
  exact h2

theorem zown_atL {w : World} {base g n cap : Nat} {d : List (ByteArray × ByteArray)} (h : Own w base (.slice (some ⟨g, 0, none⟩) n cap) d) (i : Nat) (hi : i < d.length) :
    w.cell? ⟨g, i * 2, none⟩ = some (.string d[i].1) ∧ w.cell? ⟨g, i * 2 + 1, none⟩ = some (.string d[i].2) ∧ w.frozen? ⟨g, i * 2, none⟩ = false ∧ w.frozen? ⟨g, i * 2 + 1, none⟩ = false := by
  have := h.keysAt.2 i hi
  rw [Nat.zero_add] at this
  exact ⟨this.1, this.2, zown_frozen h _, zown_frozen h _⟩

theorem Own.on {W w' : World} {base : Nat} {v : Value} {d : List (ByteArray × ByteArray)} (h : Own W base v d) (hq : Below W.heap.size W w') : Own w' base v d := by
  obtain ⟨hl, h' | ⟨g, cap, cur, h', hb, hg, hnc, hcm, hcs, ht⟩⟩ := h
  · exact ⟨hl, .inl h'⟩
  · have lt : g < W.heap.size := (Array.getElem?_eq_some_iff.1 hg).1
    exact ⟨hl, .inr ⟨g, cap, cur, h', hb, by rw [hq.block g lt]; exact hg, hnc, hcm, hcs, ht⟩⟩

theorem ahead_cmp (x y : ByteArray × ByteArray) : decide (cmpI x.1 x.2 y.1 y.2 < 0) = true ↔ ahead x y := by
  rw [decide_eq_true_iff]; rfl

end Go.Proofs.Ytinmagodckkedab.Z

/-
  The contract of the reference's Put.
-/
namespace Go.Proofs.Ytinmagodckkedab.Z
open Go.RowKit

theorem new_cell (w : World) (cs : Array Value) (t : TypeId) (k : Nat) (v : Value) (h : cs[k]? = some v) : (w.alloc (.cells cs t)).cell? ⟨w.heap.size, k, none⟩ = some v := by
  simp only [World.cell?]; rw [heap_alloc_new]; exact h

/-- The worlds that Put goes through: its list and its key lie as they did. -/
def PutW (w : World) (base g n cap : Nat) (d : List (ByteArray × ByteArray)) (x : ByteArray × ByteArray) (wr : World) : Prop :=
  Own wr base (.slice (some ⟨g, 0, none⟩) n cap) d ∧ Below base w wr ∧ wr.cell? ⟨w.heap.size, 0, none⟩ = some (.string x.1) ∧ wr.cell? ⟨w.heap.size, 1, none⟩ = some (.string x.2)

theorem PutW.on {w : World} {base g n cap : Nat} {d : List (ByteArray × ByteArray)} {x : ByteArray × ByteArray} {W w' : World} (h : PutW w base g n cap d x W) (hb : base ≤ w.heap.size) (hq : Below W.heap.size W w') : PutW w base g n cap d x w' := by
  obtain ⟨h1, h2, h3, h4⟩ := h
  have hs := h2.size
  refine ⟨h1.on hq, h2.trans (hq.mono (by omega)), ?_, ?_⟩
  · have lt : w.heap.size < W.heap.size := by
      rcases Nat.lt_or_ge w.heap.size W.heap.size with h' | h'
      · exact h'
      · simp [World.cell?, Array.getElem?_eq_none h'] at h3
    rw [(bcell hq).1 _ _ lt]; exact h3
  · have lt : w.heap.size < W.heap.size := by
      rcases Nat.lt_or_ge w.heap.size W.heap.size with h' | h'
      · exact h'
      · simp [World.cell?, Array.getElem?_eq_none h'] at h3
    rw [(bcell hq).1 _ _ lt]; exact h4
theorem PutW.drew {w : World} {base g n cap : Nat} {d : List (ByteArray × ByteArray)} {x : ByteArray × ByteArray} {W : World} (h : PutW w base g n cap d x W) : PutW w base g n cap d x W.drew :=
  ⟨h.1, h.2.1.drew, h.2.2⟩

theorem PutW.full {w : World} {base g n cap : Nat} {d : List (ByteArray × ByteArray)} {x1 x2 : ByteArray} {W : World} (h : PutW w base g n cap d (x1, x2) W) (m : Nat) (hm : m < d.length) (y1 y2 : ByteArray) (hy : d[m] = (y1, y2)) :
    PutW w base g n cap d (x1, x2) W ∧ W.cell? ⟨g, m * 2, none⟩ = some (.string y1) ∧ W.cell? ⟨g, m * 2 + 1, none⟩ = some (.string y2) ∧ W.cell? ⟨w.heap.size, 0, none⟩ = some (.string x1) ∧ W.cell? ⟨w.heap.size, 1, none⟩ = some (.string x2) := by
  obtain ⟨a1, a2, _, _⟩ := zown_atL h.1 m hm
  rw [hy] at a1 a2
  exact ⟨h, a1, a2, h.2.2.1, h.2.2.2⟩

theorem less_put (w : World) (base g n cap : Nat) (d : List (ByteArray × ByteArray)) (x y1 y2 z1 z2 : ByteArray) (x' : ByteArray) (hb : base ≤ w.heap.size) (W : World) (h : PutW w base g n cap d (x, x') W) :
    Calls Try.prog 21 #[.agg #[.string y1, .string y2], .agg #[.string z1, .string z2]] W fun e w' => e = .returned (.bool (decide (cmpI y1 y2 z1 z2 < 0))) ∧ PutW w base g n cap d (x, x') w' :=
  (zless_any y1 y2 z1 z2 W).mono fun _ _ ⟨h1, h2⟩ => ⟨h1, h.on hb h2⟩

theorem Try.infoKey : (Try.prog.info? 33).map (fun i => (i.zero, i.size, i.bytes)) = some (some (.agg #[.string ⟨#[]⟩, .string ⟨#[]⟩]), 2, 32) := by kernel_rfl

theorem two_new (W : World) (N : Nat) (hN : N = W.heap.size) (a b : Value) : ∀ j u, [a, b][j]? = some u → (W.alloc (.cells #[a, b] 33)).cell? ((⟨N, 0, none⟩ : Addr).add j) = some u := by
  intro j u hu
  have hadd : (⟨N, 0, none⟩ : Addr).add j = ⟨N, j, none⟩ := by
    unfold Addr.add
    split
    · rename_i h; simp_all
    · simp
  rw [hadd, hN]
  exact new_cell W #[a, b] 33 j u (by simpa using hu)

theorem kept_n {w : World} {b o : Nat} {v : Value} {n : Nat} {ob : Obj} (h : w.cell? ⟨b, o, none⟩ = some v) (hlt : b < w.heap.size) : ((w.drewN n).alloc ob).cell? ⟨b, o, none⟩ = some v := by
  rw [← h]
  simp only [World.cell?, World.alloc, Array.getElem?_push]
  rw [if_neg (show ¬ b = (w.drewN n).heap.size from Nat.ne_of_lt hlt)]
  rfl

/-- The worlds of Put's second half: the longer list, and the key. -/
def PutV (w : World) (base g n cap : Nat) (dk : List (ByteArray × ByteArray)) (x : ByteArray × ByteArray) (wr : World) : Prop :=
  PutW w base g n cap dk x wr ∧ g ≠ w.heap.size

theorem PutV.store {w : World} {base g n cap : Nat} {dk : List (ByteArray × ByteArray)} {x : ByteArray × ByteArray} {wr : World} (h : PutV w base g n cap dk x wr) (hb : base ≤ g) (i : Nat) (hi : i < dk.length) (a b : ByteArray) :
    PutV w base g n cap (dk.set i (a, b)) x ((wr.setCell ⟨g, i * 2, none⟩ (.string a)).setCell ⟨g, i * 2 + 1, none⟩ (.string b)) := by
  obtain ⟨⟨h1, h2, h3, h4⟩, h5⟩ := h
  refine ⟨⟨zown_storeL h1 i hi a b, (h2.setCell hb _).setCell hb _, ?_, ?_⟩, h5⟩
  · rw [World.cell?_setCell_far _ _ _ _ h5, World.cell?_setCell_far _ _ _ _ h5]; exact h3
  · rw [World.cell?_setCell_far _ _ _ _ h5, World.cell?_setCell_far _ _ _ _ h5]; exact h4

/-- The new list, when the places behind p have moved up and x has come to p. -/
theorem put_list (d dk : List (ByteArray × ByteArray)) (x : ByteArray × ByteArray) (p : Nat) (hp : p ≤ d.length) (hl : dk.length = d.length + 1) (h1 : ∀ j, j < p → dk[j]? = d[j]?) (h2 : ∀ j, p < j → dk[j]? = d[j - 1]?) :
    dk.set p x = d.take p ++ x :: d.drop p := by
  apply List.ext_getElem?
  intro j
  rcases Nat.lt_trichotomy j p with h | h | h
  · rw [List.getElem?_set_ne (by omega), h1 j h, List.getElem?_append_left (by rw [List.length_take]; omega), List.getElem?_take_of_lt h]
  · subst h
    rw [List.getElem?_set_self (by omega), List.getElem?_append_right (by rw [List.length_take]; omega), List.length_take, Nat.min_eq_left hp, Nat.sub_self]
    rfl
  · rw [List.getElem?_set_ne (by omega), h2 j h, List.getElem?_append_right (by rw [List.length_take]; omega), List.length_take, Nat.min_eq_left hp]
    obtain ⟨u, rfl⟩ : ∃ u, j = p + u + 1 := ⟨j - p - 1, by omega⟩
    rw [show p + u + 1 - p = u + 1 by omega, List.getElem?_cons_succ, List.getElem?_drop, show p + u + 1 - 1 = p + u by omega]

/-- What Put leaves: a rising list with the key in it, in memory of its own. -/
def PutPost (base : Nat) (d : List (ByteArray × ByteArray)) (x : ByteArray × ByteArray) (w : World) (e : Ending) (w' : World) : Prop :=
  ∃ v r, e = .returned v ∧ Rises r ∧ (∀ y, y ∈ r ↔ y = x ∨ y ∈ d) ∧ r.length ≤ d.length + 1 ∧ Own w' base v r ∧ Below base w w'

attribute [local go_sem ↓] Go.wp_at_zero Go.wp_at_succ

set_option maxHeartbeats 2000000 in
theorem zput_own (g cap base : Nat) (d : List (ByteArray × ByteArray)) (x1 x2 : ByteArray) (w : World) (hown : Own w base (.slice (some ⟨g, 0, none⟩) d.length cap) d)
    (hbase : base ≤ w.heap.size) (hr : Rises d) (hbytes : (d.length + 1) * 32 ≤ 140737488355328) :
    Calls Try.prog 8 #[.slice (some ⟨g, 0, none⟩) d.length cap, .agg #[.string x1, .string x2]] w (PutPost base d (x1, x2) w) := by
  have hp0 : PutW w base g d.length cap d (x1, x2) (w.alloc (.cells #[.string x1, .string x2] 33)) :=
    ⟨World.ownsRow.alloc hown _, (Below.refl _ _).alloc hbase _, by simp [go_sem], by simp [go_sem]⟩
  have hgl := World.ownsRow.lt hown g rfl
  have HP0 := hid hp0
  have HR := hid hr
  clear hp0 hr hown
  go_enter Try.func8, Try.ntmps8
  go_wp2
  go_loopg [5, 6] d.length (fun gh s5 s6 wr => ∃ lo hi : Nat, s5 = .int .i64 lo ∧ s6 = .int .i64 hi ∧ lo ≤ hi ∧ hi ≤ d.length ∧ hi - lo ≤ gh ∧ PutW w base g d.length cap d (x1, x2) wr ∧
    (∀ j, (hj : j < d.length) → j < lo → ahead d[j] (x1, x2)) ∧ (∀ j, (hj : j < d.length) → hi ≤ j → ¬ ahead d[j] (x1, x2)))
  case atStart => exact ⟨0, d.length, rfl, rfl, by omega, by omega, by omega, HP0.out, fun j _ h => by omega, fun j _ h => by omega⟩
  case round =>
    obtain ⟨lo, hi, rfl, rfl, hlh, hhn, hgh, hpw, hlo, hhi⟩ := hrel
    have HPW := hid hpw
    have HLO := hid hlo
    have HHI := hid hhi
    clear hlo hhi
    by_cases hlt : lo < hi
    · obtain ⟨m, hm⟩ : ∃ m, m = (lo + hi) / 2 := ⟨_, rfl⟩
      have hm1 : lo ≤ m := by omega
      have hm2 : m < hi := by omega
      have hmz : ((lo : Int) + (hi : Int)) / 2 = (m : Int) := by omega
      have HM := hid hm
      clear hm
      have hmd : m < d.length := by omega
      obtain ⟨⟨y1, y2⟩, hy⟩ : ∃ y, d[m] = y := ⟨_, rfl⟩
      have HY := hid hy
      have hful := PutW.full hpw m hmd y1 y2 hy
      clear hpw hy
      obtain ⟨_, a1, a2, b1, b2⟩ := id hful
      have im1 : (0 : Int) ≤ ↑m := by omega
      have im2 : (↑m : Int) < ↑d.length := by omega
      go_wp2_with fail
      go_region_held3 (fun w' => PutW w base g d.length cap d (x1, x2) w' ∧ w'.cell? ⟨g, m * 2, none⟩ = some (.string y1) ∧ w'.cell? ⟨g, m * 2 + 1, none⟩ = some (.string y2) ∧ w'.cell? ⟨w.heap.size, 0, none⟩ = some (.string x1) ∧ w'.cell? ⟨w.heap.size, 1, none⟩ = some (.string x2))
        (first | exact PutW.full HPW.out.drew m hmd y1 y2 HY.out | exact PutW.full hpw2 m hmd y1 y2 HY.out)
        ((go_at_call 21; refine (less_put w base g d.length cap d x1 y1 y2 x1 x2 x2 hbase _ HPW.out.drew).mono ?_; rintro o w2 ⟨rfl, hpw2⟩))
      have hpw3 : PutW w base g d.length cap d (x1, x2) w2 := hpw2
      clear a1 a2 b1 b2
      cases hc : decide (cmpI y1 y2 x1 x2 < 0) with
      | true =>
        have HC := hid hc
        go_wp2_with fail
        go_roundg (hi - (m + 1))
        case measure => omega
        case rel =>
          refine ⟨m + 1, hi, by go_num, rfl, by omega, by omega, Nat.le_refl _, hpw3, fun j hj h => ?_, HHI.out⟩
          have hax : ahead d[m] (x1, x2) := by rw [HY.out]; exact (ahead_cmp (y1, y2) (x1, x2)).1 HC.out
          by_cases hjm : j = m
          · subst hjm; exact hax
          · exact ahead_trans (rises_lt HR.out j m (by omega) hmd) hax
      | false =>
        have HC := hid hc
        go_wp2_with fail
        go_roundg (m - lo)
        case measure => omega
        case rel =>
          refine ⟨lo, m, rfl, rfl, by omega, by omega, Nat.le_refl _, hpw3, HLO.out, fun j hj h => ?_⟩
          have hax : ¬ ahead d[m] (x1, x2) := by
            rw [HY.out]
            intro h'
            have := (ahead_cmp (y1, y2) (x1, x2)).2 h'
            rw [HC.out] at this
            cases this
          by_cases hjm : j = m
          · subst hjm; exact hax
          · exact fun h' => hax (ahead_trans (rises_lt HR.out m j (by omega) hj) h')
    · have hle : hi = lo := by omega
      subst hle
      obtain ⟨ho, hbl, b1, b2⟩ := id hpw
      by_cases hin : hi < d.length
      · obtain ⟨⟨y1, y2⟩, hy⟩ : ∃ y, d[hi] = y := ⟨_, rfl⟩
        have HY := hid hy
        have hful := PutW.full hpw hi hin y1 y2 hy
        clear hy hpw
        obtain ⟨_, a1, a2, _, _⟩ := id hful
        have im1 : (0 : Int) ≤ ↑hi := by omega
        have im2 : (↑hi : Int) < ↑d.length := by omega
        have heq := fun W => eql_key y1 y2 x1 x2 W
        rw [eqK_iff (y1, y2) (x1, x2)] at heq
        by_cases hxy : (y1, y2) = (x1, x2)
        · have HX := hid hxy
          have hd : decide ((y1, y2) = (x1, x2)) = true := by simp [hxy]
          rw [hd] at heq
          clear hxy hd
          go_wp2_with fail
          go_quiet (fail)
          go_wp2_with fail
          go_ret
          refine ⟨_, d, rfl, HR.out, fun z => ⟨fun h => .inr h, ?_⟩, by omega, HPW.out.1, below_drewN HPW.out.2.1 _⟩
          rintro (rfl | h)
          · rw [← HX.out, ← HY.out]; exact List.getElem_mem _
          · exact h
        · have HX := hid hxy
          have hd : decide ((y1, y2) = (x1, x2)) = false := by simpa using hxy
          rw [hd] at heq
          clear hxy hd
          go_wp2_with fail
          go_quiet (fail)
          obtain ⟨i0, hi0, hz0, hz1, hz2⟩ := info_parts Try.infoKey
          have hsz := HPW.out.2.1.size
          go_wp2_with (at_builtin; refine wpList_append_lies _ rfl _ _ 28 rfl base 33 i0 (.agg #[.string ⟨#[]⟩, .string ⟨#[]⟩]) 2 32 Try.underlying28 hi0 hz0 hz1 hz2 rfl (by decide) _ _ _ rfl (World.ownsRow.alloc HPW.out.1 _) ⟨wr.heap.size, 0, none⟩ 1 1 [.string ⟨#[]⟩, .string ⟨#[]⟩] rfl rfl ?c1 ?c2 (by decide) ?c3 ?c4 ?c5 (wr.heap.size + 1) ?c6 ?_)
          case c1 => exact two_new _ _ rfl _ _
          case c2 => intro u hu; simp at hu; subst hu; rfl
          case c3 => unfold maxLen; omega
          case c4 => omega
          case c5 => simp; omega
          case c6 => simp
          intro g2 cap2 w1 hown1 hgrow hat hg2
          have hgN : g2 ≠ w.heap.size := by
            rcases hat with h | h
            · simp [Value.ownBlock] at h; omega
            · omega
          have hbg2 : base ≤ g2 := (World.ownsRow.lt hown1 g2 rfl).1
          have hpv : PutV w base g2 (d.length + 1) cap2 (d ++ [(⟨#[]⟩, ⟨#[]⟩)]) (x1, x2) w1 := by
            have hlt0 : w.heap.size < wr.heap.size := by
              rcases Nat.lt_or_ge w.heap.size wr.heap.size with h' | h'
              · exact h'
              · have := HPW.out.2.2.1; simp [World.cell?, Array.getElem?_eq_none h'] at this
            have hNg : some w.heap.size ≠ (Value.slice (some ⟨g, 0, none⟩) d.length cap).ownBlock := by simp [Value.ownBlock]; omega
            refine ⟨⟨?_, ?_, ?_, ?_⟩, hgN⟩
            · unfold Own; rw [cellsL_append, List.length_append]; exact hown1
            · exact ((below_drewN HPW.out.2.1 nq).alloc (by simp; omega) _).grown hgrow (by simp; omega) (by intro k hk; simp [Value.ownBlock] at hk; omega)
            · rw [hgrow.cell_far _ (by simp; omega) hNg]; exact kept_n (HPW.out.2.2.1) hlt0
            · rw [hgrow.cell_far _ (by simp; omega) hNg]; exact kept_n (HPW.out.2.2.2) hlt0
          have HPV := hid hpv
          clear hown1 hgrow hat hpv hg2 hi0 hz0 hz1 hz2 hful a1 a2
          go_wp2_with fail
          go_loopg [8] (d.length + 1) (fun gh s8 wr2 => ∃ (k : Nat) (dk : List (ByteArray × ByteArray)), s8 = .int .i64 k ∧ hi ≤ k ∧ k ≤ d.length ∧ k - hi ≤ gh ∧ PutV w base g2 (d.length + 1) cap2 dk (x1, x2) wr2 ∧ dk.length = d.length + 1 ∧ (∀ j, j < k → dk[j]? = d[j]?) ∧ (∀ j, k < j → dk[j]? = d[j - 1]?))
          case atStart =>
            refine ⟨d.length, _, by go_num, by omega, by omega, by omega, HPV.out, by simp, fun j hj => ?_, fun j hj => ?_⟩
            · rw [List.getElem?_append_left hj]
            · rw [List.getElem?_eq_none (by simp; omega), List.getElem?_eq_none (by omega)]
          case round =>
            obtain ⟨k, dk, rfl, hk1, hk2, hgh2, hv, hdl, hd1, hd2⟩ := hrel
            have HV := hid hv
            have HD := hid (And.intro hd1 hd2)
            clear hd1 hd2
            by_cases hgt : hi < k
            · obtain ⟨⟨p1, p2⟩, hp⟩ : ∃ y, dk[k - 1]'(by omega) = y := ⟨_, rfl⟩
              obtain ⟨e1, e2, _, _⟩ := zown_atL hv.1.1 (k - 1) (by omega)
              obtain ⟨f1, f2, f3, f4⟩ := zown_atL hv.1.1 k (by omega)
              rw [hp] at e1 e2
              have HP := hid hp
              clear hp hv
              generalize (dk[k]'(by omega)).1 = o1 at *
              generalize (dk[k]'(by omega)).2 = o2 at *
              have im1 : (0 : Int) ≤ ↑k - 1 := by omega
              have im2 : (↑k - 1 : Int) < ↑(d.length + 1) := by omega
              have im3 : (↑k : Int) < ↑(d.length + 1) := by omega
              go_wp2_with fail
              go_roundg (k - 1 - hi)
              case measure => omega
              case rel =>
                refine ⟨k - 1, dk.set k (p1, p2), by go_num, by omega, by omega, Nat.le_refl _, HV.out.store hbg2 k (by omega) p1 p2, by simp [hdl], fun j hj => ?_, fun j hj => ?_⟩
                · rw [List.getElem?_set_ne (by omega)]; exact HD.out.1 j (by omega)
                · by_cases hjk : j = k
                  · subst hjk
                    rw [List.getElem?_set_self (by omega), ← HD.out.1 (j - 1) (by omega), List.getElem?_eq_getElem (by omega), HP.out]
                  · rw [List.getElem?_set_ne (by omega)]; exact HD.out.2 j (by omega)
            · have hke : k = hi := by omega
              subst hke
              obtain ⟨f1, f2, f3, f4⟩ := zown_atL hv.1.1 k (by omega)
              obtain ⟨_, _, e1, e2⟩ := hv.1
              generalize (dk[k]'(by omega)).1 = o1 at *
              generalize (dk[k]'(by omega)).2 = o2 at *
              have im1 : (0 : Int) ≤ ↑k := by omega
              have im3 : (↑k : Int) < ↑(d.length + 1) := by omega
              go_wp2_with fail
              go_ret
              have hst := HV.out.store hbg2 k (by omega) x1 x2
              have hpl := put_list d dk (x1, x2) k (by omega) hdl HD.out.1 HD.out.2
              rw [hpl] at hst
              obtain ⟨hri, hmem⟩ := insert_rises d (x1, x2) k (by omega) HR.out HLO.out (fun j hj h => by
                have hx : ahead (x1, x2) d[k] := by
                  rcases ahead_total d[k] (x1, x2) with h' | h' | h'
                  · exact absurd h' (HHI.out k hin (Nat.le_refl _))
                  · rw [HY.out] at h'; exact absurd h' HX.out
                  · exact h'
                by_cases hjk : j = k
                · subst hjk; exact hx
                · exact ahead_trans hx (rises_lt HR.out k j (by omega) hj))
              exact ⟨_, _, rfl, hri, hmem, by simp; omega, hst.1.1, hst.1.2.1⟩
      · have hin' : decide ((hi : Int) < (d.length : Int)) = false := by simp; omega
        have hin2 : ¬ (hi : Int) < (d.length : Int) := by omega
        clear hpw
        go_wp2_with fail
        go_quiet (fail)
        obtain ⟨i0, hi0, hz0, hz1, hz2⟩ := info_parts Try.infoKey
        have hsz := HPW.out.2.1.size
        go_wp2_with (at_builtin; refine wpList_append_lies _ rfl _ _ 28 rfl base 33 i0 (.agg #[.string ⟨#[]⟩, .string ⟨#[]⟩]) 2 32 Try.underlying28 hi0 hz0 hz1 hz2 rfl (by decide) _ _ _ rfl (World.ownsRow.alloc HPW.out.1 _) ⟨wr.heap.size, 0, none⟩ 1 1 [.string ⟨#[]⟩, .string ⟨#[]⟩] rfl rfl ?c1 ?c2 (by decide) ?c3 ?c4 ?c5 (wr.heap.size + 1) ?c6 ?_)
        case c1 => exact two_new _ _ rfl _ _
        case c2 => intro u hu; simp at hu; subst hu; rfl
        case c3 => unfold maxLen; omega
        case c4 => omega
        case c5 => simp; omega
        case c6 => simp
        intro g2 cap2 w1 hown1 hgrow hat hg2
        have hgN : g2 ≠ w.heap.size := by
          rcases hat with h | h
          · simp [Value.ownBlock] at h; omega
          · omega
        have hbg2 : base ≤ g2 := (World.ownsRow.lt hown1 g2 rfl).1
        have hpv : PutV w base g2 (d.length + 1) cap2 (d ++ [(⟨#[]⟩, ⟨#[]⟩)]) (x1, x2) w1 := by
          have hlt0 : w.heap.size < wr.heap.size := by
            rcases Nat.lt_or_ge w.heap.size wr.heap.size with h' | h'
            · exact h'
            · have := HPW.out.2.2.1; simp [World.cell?, Array.getElem?_eq_none h'] at this
          have hNg : some w.heap.size ≠ (Value.slice (some ⟨g, 0, none⟩) d.length cap).ownBlock := by simp [Value.ownBlock]; omega
          refine ⟨⟨?_, ?_, ?_, ?_⟩, hgN⟩
          · unfold Own; rw [cellsL_append, List.length_append]; exact hown1
          · exact ((below_drewN HPW.out.2.1 nq).alloc (by simp; omega) _).grown hgrow (by simp; omega) (by intro k hk; simp [Value.ownBlock] at hk; omega)
          · rw [hgrow.cell_far _ (by simp; omega) hNg]; exact kept_n (HPW.out.2.2.1) hlt0
          · rw [hgrow.cell_far _ (by simp; omega) hNg]; exact kept_n (HPW.out.2.2.2) hlt0
        have HPV := hid hpv
        clear hown1 hgrow hat hpv hg2 hi0 hz0 hz1 hz2 
        go_wp2_with fail
        go_loopg [8] (d.length + 1) (fun gh s8 wr2 => ∃ (k : Nat) (dk : List (ByteArray × ByteArray)), s8 = .int .i64 k ∧ hi ≤ k ∧ k ≤ d.length ∧ k - hi ≤ gh ∧ PutV w base g2 (d.length + 1) cap2 dk (x1, x2) wr2 ∧ dk.length = d.length + 1 ∧ (∀ j, j < k → dk[j]? = d[j]?) ∧ (∀ j, k < j → dk[j]? = d[j - 1]?))
        case atStart =>
          refine ⟨d.length, _, by go_num, by omega, by omega, by omega, HPV.out, by simp, fun j hj => ?_, fun j hj => ?_⟩
          · rw [List.getElem?_append_left hj]
          · rw [List.getElem?_eq_none (by simp; omega), List.getElem?_eq_none (by omega)]
        case round =>
          obtain ⟨k, dk, rfl, hk1, hk2, hgh2, hv, hdl, hd1, hd2⟩ := hrel
          have HV := hid hv
          have HD := hid (And.intro hd1 hd2)
          clear hd1 hd2
          by_cases hgt : hi < k
          · exact absurd hgt (by omega)
          · have hke : k = hi := by omega
            subst hke
            obtain ⟨f1, f2, f3, f4⟩ := zown_atL hv.1.1 k (by omega)
            obtain ⟨_, _, e1, e2⟩ := hv.1
            generalize (dk[k]'(by omega)).1 = o1 at *
            generalize (dk[k]'(by omega)).2 = o2 at *
            have im1 : (0 : Int) ≤ ↑k := by omega
            have im3 : (↑k : Int) < ↑(d.length + 1) := by omega
            go_wp2_with fail
            go_ret
            have hst := HV.out.store hbg2 k (by omega) x1 x2
            have hpl := put_list d dk (x1, x2) k (by omega) hdl HD.out.1 HD.out.2
            rw [hpl] at hst
            obtain ⟨hri, hmem⟩ := insert_rises d (x1, x2) k (by omega) HR.out HLO.out (fun j hj h => absurd h (by omega))
            exact ⟨_, _, rfl, hri, hmem, by simp; omega, hst.1.1, hst.1.2.1⟩

set_option maxHeartbeats 1000000 in
theorem zput_nil (base : Nat) (x1 x2 : ByteArray) (w : World) (hbase : base ≤ w.heap.size) :
    Calls Try.prog 8 #[.slice none 0 0, .agg #[.string x1, .string x2]] w (PutPost base [] (x1, x2) w) := by
  go_enter Try.func8, Try.ntmps8
  go_wp2
  refine wp_loop_rounds 1 ?_
  rw [rounds_succ]
  go_wp2_with fail
  go_quiet (fail)
  obtain ⟨i0, hi0, hz0, hz1, hz2⟩ := info_parts Try.infoKey
  go_wp2_with (at_builtin; refine wpList_append_lies _ rfl _ _ 28 rfl base 33 i0 (.agg #[.string ⟨#[]⟩, .string ⟨#[]⟩]) 2 32 Try.underlying28 hi0 hz0 hz1 hz2 rfl (by decide) _ _ _ rfl (World.ownsRow_nil _ base 33 2) ⟨w.heap.size + 1, 0, none⟩ 1 1 [.string ⟨#[]⟩, .string ⟨#[]⟩] rfl rfl ?c1 ?c2 (by decide) ?c3 ?c4 ?c5 (w.heap.size + 2) ?c6 ?_)
  case c1 => exact two_new _ _ (by simp) _ _
  case c2 => intro u hu; simp at hu; subst hu; rfl
  case c3 => unfold maxLen; omega
  case c4 => omega
  case c5 => simp; omega
  case c6 => simp
  intro g2 cap2 w1 hown1 hgrow hat hg2
  have hg : g2 = w.heap.size + 2 := by
    rcases hat with h | h
    · simp [Value.ownBlock] at h
    · exact h
  have c0 : w1.cell? ⟨w.heap.size, 0, none⟩ = some (.string x1) := by
    rw [hgrow.cell_far _ (by simp; omega) (by simp [Value.ownBlock])]; simp [go_sem]
  have c1 : w1.cell? ⟨w.heap.size, 1, none⟩ = some (.string x2) := by
    rw [hgrow.cell_far _ (by simp; omega) (by simp [Value.ownBlock])]; simp [go_sem]
  have ho : Own w1 base (.slice (some ⟨g2, 0, none⟩) (0 + 1) cap2) [(⟨#[]⟩, ⟨#[]⟩)] := hown1
  have hb1 : Below base w w1 := (((below_drewN ((Below.refl _ _).alloc hbase _) _).alloc (by simp; omega) _).grown hgrow (by simp; omega) (by intro k hk; simp [Value.ownBlock] at hk))
  have hbg : base ≤ g2 := by omega
  obtain ⟨f1, f2, f3, f4⟩ := zown_atL ho 0 (by simp)
  have HO := hid ho
  have HB := hid hb1
  clear hown1 hgrow hat hg2 hi0 hz0 hz1 hz2 ho hb1 hg
  go_wp2_with fail
  refine wp_loop_rounds 1 ?_
  rw [rounds_succ]
  go_wp2_with fail
  go_ret
  have hst := zown_storeL HO.out 0 (by simp) x1 x2
  refine ⟨_, [(x1, x2)], rfl, List.pairwise_singleton _ _, fun y => by simp, by simp, ?_, (HB.out.setCell hbg _).setCell hbg _⟩
  exact hst

end Go.Proofs.Ytinmagodckkedab.Z

/-
  Put of the reference, on keys of one's own.
-/
namespace Go.Proofs.Ytinmagodckkedab
open Go.RowKit

theorem insR_len {α : Type} [DecidableEq α] (lt : α → α → Bool) (x : α) : ∀ l : List α, (insR lt x l).length ≤ l.length + 1
  | [] => by simp [insR]
  | y :: r => by
    unfold insR
    split
    · simp
    · split
      · simp
      · have := insR_len lt x r
        simp only [List.length_cons]
        omega

theorem told_snoc {α : Type} [DecidableEq α] (lt : α → α → Bool) (g : ByteArray → Option α) (ts : List ByteArray) (t : ByteArray) :
    toldBy lt g (ts ++ [t]) = match g t with | some x => insR lt x (toldBy lt g ts) | none => toldBy lt g ts := by
  unfold toldBy
  rw [List.foldl_append]
  rfl

theorem told_len {α : Type} [DecidableEq α] (lt : α → α → Bool) (g : ByteArray → Option α) (ts : List ByteArray) : (toldBy lt g ts).length ≤ ts.length := by
  have : ∀ (l : List ByteArray) (acc : List α), (l.foldl (fun acc t => match g t with | some x => insR lt x acc | none => acc) acc).length ≤ acc.length + l.length := by
    intro l
    induction l with
    | nil => intro acc; simp
    | cons t l ih =>
      intro acc
      rw [List.foldl_cons, List.length_cons]
      cases g t with
      | none => have := ih acc; simp only; omega
      | some x => have := ih (insR lt x acc); have := insR_len lt x acc; simp only; omega
  have h := this ts []
  rw [List.length_nil, Nat.zero_add] at h
  exact h

theorem kput_any (n0 : Nat) (v : Value) (l : List Ky) (x : Ky) (w : World) (h : KK.Own n0 w v l) (h0 : n0 ≤ w.heap.size) (hr : RisingR ltKy l) (hl : l.length ≤ 2000000) :
    Calls Try.prog 8 #[v, .agg #[.string x.1, .string x.2]] w fun e w' => ∃ u, e = .returned u ∧ KK.Own n0 w' u (insR ltKy x l) ∧ Below n0 w w' := by
  have key : ∀ e w', Z.PutPost n0 l (x.1, x.2) w e w' → ∃ u, e = .returned u ∧ KK.Own n0 w' u (insR ltKy x l) ∧ Below n0 w w' := by
    rintro e w' ⟨u, r, rfl, hri, hmem, _, hown, hb⟩
    refine ⟨u, rfl, ?_, hb⟩
    have : r = insR ltKy x l := rising_uniqR totK (z_rises hri) (rising_insR totK x hr) fun z => by rw [hmem z, mem_insR]
    rw [← this]
    exact hown
  rcases h.2 with ⟨hv, hz⟩ | ⟨g, cap, cur, hv, _⟩
  · obtain rfl := List.length_eq_zero_iff.1 hz
    subst hv
    exact (Z.zput_nil n0 x.1 x.2 w h0).mono key
  · subst hv
    exact (Z.zput_own g cap n0 l x.1 x.2 w h h0 (z_rises' hr) (by omega)).mono key

end Go.Proofs.Ytinmagodckkedab

/-
  The walk of RefsUnions.
-/
namespace Go.Proofs.Ytinmagodckkedab
open Go.RowKit Go.Lib

theorem len_of_sub {α : Type} [DecidableEq α] : ∀ (l m : List α), l.Nodup → (∀ x ∈ l, x ∈ m) → l.length ≤ m.length
  | [], _, _, _ => Nat.zero_le _
  | a :: l, m, hn, hs => by
    obtain ⟨h1, h2⟩ := List.nodup_cons.1 hn
    have ha := hs a (by simp)
    have := len_of_sub l (m.erase a) h2 fun x hx => (List.mem_erase_of_ne (by rintro rfl; exact h1 hx)).2 (hs x (by simp [hx]))
    have e := List.length_erase_of_mem ha
    have hp := List.length_pos_of_mem ha
    simp only [List.length_cons]
    omega

def oneB (bs : List Bd) (n : ByteArray) (ks : List Ky) : List Ky := bs.foldl (fun acc b => if b.1 = n then insR ltKy b.2 acc else acc) ks
theorem oneB_snoc (bs : List Bd) (x : Bd) (n : ByteArray) (ks : List Ky) : oneB (bs ++ [x]) n ks = if x.1 = n then insR ltKy x.2 (oneB bs n ks) else oneB bs n ks := by
  unfold oneB
  rw [List.foldl_append]
  rfl
theorem unionB_snoc (bs : List Bd) (ns : List ByteArray) (n : ByteArray) (ks : List Ky) : unionB bs (ns ++ [n]) ks = oneB bs n (unionB bs ns ks) := by
  unfold unionB oneB
  rw [List.foldl_append]
  rfl

theorem rising_nodup {l : List Ky} (h : RisingR ltKy l) : l.Nodup := h.imp fun {a b} hab e => by
  subst e
  rw [totK.irr] at hab
  cases hab

/-- What has been gathered rises, and is no more than the keys and the binds. -/
theorem gather (bs : List Bd) (ns : List ByteArray) (n : ByteArray) (ks : List Ky) (j : Nat) (hk : RisingR ltKy ks) : RisingR ltKy (oneB (bs.take j) n (unionB bs ns ks)) ∧ (oneB (bs.take j) n (unionB bs ns ks)).length ≤ ks.length + bs.length := by
  obtain ⟨h1, h2⟩ := union_all bs ns ks hk
  obtain ⟨h3, h4⟩ := union_one (bs.take j) n (unionB bs ns ks) h1
  refine ⟨h3, ?_⟩
  have := len_of_sub (oneB (bs.take j) n (unionB bs ns ks)) (ks ++ bs.map (·.2)) (rising_nodup h3) fun z hz => by
    rcases (h4 z).1 hz with h | h
    · rcases (h2 z).1 h with h | ⟨m, _, h⟩
      · exact List.mem_append.2 (Or.inl h)
      · exact List.mem_append.2 (Or.inr (List.mem_map.2 ⟨_, h, rfl⟩))
    · exact List.mem_append.2 (Or.inr (List.mem_map.2 ⟨_, List.mem_of_mem_take h, rfl⟩))
  simpa using this

theorem z_is_ky {w : World} {v : Value} {d : List Ky} (h : KK.Is w v d) : Z.IsKeys w v d := by
  obtain ⟨p, cap, rfl, h | ⟨b, off, rfl, h⟩⟩ := h
  · exact ⟨p, cap, rfl, Or.inl h⟩
  · exact ⟨_, cap, rfl, Or.inr ⟨b, off, rfl, z_at h⟩⟩

theorem kput_at (n0 : Nat) (v : Value) (l : List Ky) (x : Ky) (w : World) (h : KK.Own n0 w v l) (h0 : n0 ≤ w.heap.size) (hr : RisingR ltKy l) (hl : l.length ≤ 4000000) :
    Calls Try.prog 8 #[v, .agg #[.string x.1, .string x.2]] w fun e w' => ∃ u, e = .returned u ∧ KK.Own n0 w' u (insR ltKy x l) ∧ Below n0 w w' := by
  have key : ∀ e w', Z.PutPost n0 l (x.1, x.2) w e w' → ∃ u, e = .returned u ∧ KK.Own n0 w' u (insR ltKy x l) ∧ Below n0 w w' := by
    rintro e w' ⟨u, r, rfl, hri, hmem, _, hown, hb⟩
    refine ⟨u, rfl, ?_, hb⟩
    have : r = insR ltKy x l := rising_uniqR totK (z_rises hri) (rising_insR totK x hr) fun z => by rw [hmem z, mem_insR]
    rw [← this]
    exact hown
  rcases h.2 with ⟨hv, hz⟩ | ⟨g, cap, cur, hv, _⟩
  · obtain rfl := List.length_eq_zero_iff.1 hz
    subst hv
    exact (Z.zput_nil n0 x.1 x.2 w h0).mono key
  · subst hv
    exact (Z.zput_own g cap n0 l x.1 x.2 w h h0 (z_rises' hr) (by omega)).mono key

set_option maxHeartbeats 8000000 in
set_option maxRecDepth 100000 in
theorem unions_any (v vb : Value) (d : List Fx) (bs : List Bd) (w : World) (hv : IsXs w v d) (hvb : KB.Is w vb bs) (hf : FitX d) (hc : CopyX d) (hT : (txtsX d).length ≤ 2000000) (hfb : FitBd bs) :
    Calls Try.prog 3 #[v, vb] w fun e w' => e = .returned (.bool true) ∧ Below w.heap.size w w' := by
  have H1 : Hid (∀ W, Below w.heap.size w W → Calls Try.prog 5 #[v, vb] W fun e w' => AnsJ W (resAns bs (d.map Fx.fld)) (rsCode bs (d.map Fx.fld)) e w') := fun W hW => resolve_any v vb d bs W (hv.kept hW) (Kind.is_kept hvb hW) hf hc hT hfb
  have HFT : Hid (∀ o : List Fx, o.map Fx.fld = resAns bs (d.map Fx.fld) → FitX o) := fun o ho => fit_res hf ho
  by_cases hC0 : rsCode bs (d.map Fx.fld) = 0
  · obtain ⟨hk, hnd, hall, hans⟩ := res_ok (by decide) (by decide) (by decide) hC0
    have HUN := hid (res_unionB hk hnd hall)
    rw [hC0, hans] at H1
    rw [hans] at HFT
    have H2 : Hid (∀ W, Below w.heap.size w W → Calls Try.prog 6 #[v] W fun e w' => ∃ u, e = .returned u ∧ KK.Own W.heap.size w' u (keysF (d.map Fx.fld)) ∧ Below W.heap.size W w') := fun W hW => keys_any v d W (hv.kept hW) hf hT
    have H3 : Hid (∀ W, Below w.heap.size w W → Calls Try.prog 7 #[v] W fun e w' => ∃ u, e = .returned u ∧ OwnT W.heap.size w' u (tempsF (d.map Fx.fld)) ∧ Below W.heap.size W w') := fun W hW => temps_any v d W (hv.kept hW) hf hT
    have HKR := hid (told_rising totK namedT (textsF (d.map Fx.fld)))
    have hKl : (keysF (d.map Fx.fld)).length ≤ 2000000 := by
      unfold keysF
      refine Nat.le_trans (told_len _ _ _) ?_
      rw [txtsX_flds]; exact hT
    have hTl : (tempsF (d.map Fx.fld)).length ≤ 2000000 := by
      unfold tempsF
      refine Nat.le_trans (told_len _ _ _) ?_
      rw [txtsX_flds]; exact hT
    have HTXT : Hid (∀ o : List Fx, o.map Fx.fld = mapT (resT bs) (d.map Fx.fld) → (txtsX o).length ≤ 2000000) := fun o ho => by
      have : txtsX o = (txtsX d).map (resT bs) := by
        rw [← txtsX_flds, ho, ← txtsX_flds]
        unfold textsF mapT
        simp [List.flatMap_map, List.map_flatMap]
      rw [this, List.length_map]
      exact hT
    have hbl := hfb.1
    change Hid (RisingR ltKy (keysF (d.map Fx.fld))) at HKR
    obtain ⟨K, hK⟩ : ∃ K, keysF (d.map Fx.fld) = K := ⟨_, rfl⟩
    obtain ⟨T, hTT⟩ : ∃ T, tempsF (d.map Fx.fld) = T := ⟨_, rfl⟩
    obtain ⟨F, hF⟩ : ∃ F, mapT (resT bs) (d.map Fx.fld) = F := ⟨_, rfl⟩
    rw [hK] at H2 hKl HKR HUN
    rw [hTT] at H3 hTl HUN
    rw [hF] at HUN H1 HFT HTXT
    obtain ⟨pb, cb, rfl, hdb⟩ := hvb
    have HDB := hid hdb
    obtain ⟨i0, hi0, hz0, hz1, hz2⟩ := info_parts Try.infoKy
    have HI := hid hi0
    clear hv hf hc hT hfb hC0 hk hnd hall hans hK hTT hF hdb hi0
    go_enter Try.func3, Try.ntmps3
    go_wp2_with fail
    refine (rfixed_any _).mono ?_
    rintro e w1 ⟨rfl, hq1⟩
    have HB1 := hid hq1
    clear hq1
    go_wp2_with fail
    refine (H1.out w1 HB1.out).mono ?_
    rintro e w2 ⟨u2, o2, rfl, ho2, hm2, hq2⟩
    have HB2 := hid (bel_then HB1.out HB1.out.size hq2)
    have HI2 := hid ho2.1.is
    have HF2 := hid (HFT.out o2 hm2)
    have HT2 := hid (HTXT.out o2 hm2)
    have HM2 := hid hm2
    clear ho2 hm2 hq2 H1 HFT HTXT HB1
    go_wp2_with fail
    refine (H2.out w2 HB2.out).mono ?_
    rintro e w3 ⟨u3, rfl, ho3, hq3⟩
    have HB3 := hid hq3
    have HO3 := hid (Kind.own_is ho3)
    clear ho3 hq3 H2
    go_wp2_with fail
    refine (H3.out w3 (bel_then HB2.out HB2.out.size HB3.out)).mono ?_
    rintro e w4 ⟨u4, rfl, ho4, hq4⟩
    have HB4 := hid (bel_then HB3.out HB3.out.size hq4)
    have HO4 := hid (Kind.is_kept HO3.out hq4)
    obtain ⟨p4, c4, rfl, hd4⟩ := Kind.own_is (kt_own.2 ho4)
    have HT4 := hid (kt_txt.2 hd4)
    have HN := hid (HI2.out.kept HB4.out)
    have HW := hid (bel_then HB2.out HB2.out.size HB4.out)
    clear ho4 hq4 hd4 H3 HO3 HB3 HB4 HI2
    go_wp2_with fail
    go_loopg [7, 29] T.length (fun g vs vi wr => ∃ i : Nat, vi = .int .i64 i ∧ i ≤ T.length ∧ T.length - i ≤ g ∧ Hid (Below w4.heap.size w4 wr) ∧ Hid (KK.Is wr vs (unionB bs (T.take i) K)))
    case atStart => exact ⟨0, rfl, by omega, by omega, Below.refl _ _, HO4.out⟩
    case round =>
      clear HO4
      obtain ⟨i, rfl, hi, hgk, HB, HO⟩ := hrel
      by_cases hlt : i < T.length
      · have hltz : (i : Int) < (T.length : Int) := by omega
        have hiz : (0 : Int) ≤ i := by omega
        obtain ⟨b4, off4, rfl, ht4⟩ : ∃ b o, p4 = some ⟨b, o, none⟩ ∧ ∀ i, (h : i < T.length) → w4.cell? ⟨b, o + i, none⟩ = some (.string T[i]) := by
          rcases HT4.out with h | h
          · rw [h] at hlt; simp at hlt
          · exact h
        have t0 : wr.cell? ⟨b4, off4 + i, none⟩ = some (.string T[i]) := (HB.out.cell (p := ⟨b4, off4 + i, none⟩) (cell_block (ht4 i hlt))).trans (ht4 i hlt)
        have htk : unionB bs (T.take (i + 1)) K = oneB bs T[i] (unionB bs (T.take i) K) := by rw [List.take_succ_eq_append_getElem hlt, unionB_snoc]
        obtain ⟨n, hn⟩ : ∃ n, T[i] = n := ⟨_, rfl⟩
        rw [hn] at t0 htk
        have HG := hid (fun j => gather bs (T.take i) n K j HKR.out)
        obtain ⟨X, hX⟩ : ∃ X, unionB bs (T.take i) K = X := ⟨_, rfl⟩
        rw [hX] at HO htk HG
        have HTK := hid htk
        clear ht4 htk hn hX
        go_wp2_with fail
        clear t0
        go_loopg [7, 35] bs.length (fun g vs vj wr2 => ∃ j : Nat, vj = .int .i64 j ∧ j ≤ bs.length ∧ bs.length - j ≤ g ∧ Hid (Below w4.heap.size w4 wr2) ∧ Hid (KK.Is wr2 vs (oneB (bs.take j) n X)))
        case atStart => exact ⟨0, rfl, by omega, by omega, HB.out, HO.out⟩
        case round =>
          clear HB HO
          obtain ⟨j, rfl, hj, hgj, HB, HO⟩ := hrel
          by_cases hlj : j < bs.length
          · have hljz : (j : Int) < (bs.length : Int) := by omega
            have hjz : (0 : Int) ≤ j := by omega
            obtain ⟨b5, off5, rfl, hat⟩ : ∃ b off, pb = some ⟨b, off, none⟩ ∧ KB.At w b off bs := by
              rcases HDB.out with h | h
              · subst h; simp at hlj
              · exact h
            obtain ⟨c0, c1, c2⟩ := kb_at (Kind.at_kept hat (bel_then HW.out HW.out.size HB.out)) j hlj
            have hsn : oneB (bs.take (j + 1)) n X = if (bs[j]).1 = n then insR ltKy (bs[j]).2 (oneB (bs.take j) n X) else oneB (bs.take j) n X := by rw [List.take_succ_eq_append_getElem hlj, oneB_snoc]
            obtain ⟨x, hx⟩ : ∃ x, bs[j] = x := ⟨_, rfl⟩
            rw [hx] at c0 c1 c2 hsn
            obtain ⟨bn, k1, k2⟩ := x
            simp only at c0 c1 c2 hsn
            obtain ⟨hri, hle⟩ := HG.out j
            obtain ⟨Y, hY⟩ : ∃ Y, oneB (bs.take j) n X = Y := ⟨_, rfl⟩
            rw [hY] at HO hsn hri hle
            have HSN := hid hsn
            have HRI := hid hri
            have hYl : Y.length ≤ 4000000 := by omega
            obtain ⟨S, hS⟩ : ∃ S, wr.heap.size = S := ⟨_, rfl⟩
            obtain ⟨Wb, hWb⟩ : ∃ Wb, wr.alloc (.cells #[.string bn, .string k1, .string k2] 35) = Wb := ⟨_, rfl⟩
            have HBB : Hid (Below w4.heap.size w4 Wb) := by show Below _ _ _; rw [← hWb]; exact HB.out.alloc HB.out.size _
            obtain ⟨p7, c7, rfl, hd7⟩ := HO.out
            have HOB : Hid (KK.Is Wb (.slice p7 Y.length c7) Y) := by
              rw [← hWb]
              exact Kind.is_kept HO.out ((Below.refl _ _).alloc (Nat.le_refl _) _)
            have x0 : Wb.cell? ⟨S, 0, none⟩ = some (.string bn) := by rw [← hWb, ← hS]; simp [go_sem]
            have x1 : Wb.cell? ⟨S, 1, none⟩ = some (.string k1) := by rw [← hWb, ← hS]; simp [go_sem]
            have x2 : Wb.cell? ⟨S, 2, none⟩ = some (.string k2) := by rw [← hWb, ← hS]; simp [go_sem]
            have hSW : S < Wb.heap.size := by rw [← hWb, ← hS]; simp
            clear hat hx hsn hri hle hY HO hd7
            by_cases hbn : bn = n
            · subst hbn
              go_upto_region 14 with fail
              try rw [hWb]
              try rw [hS]
              clear c0 c1 c2 hWb hS x0
              have s0 : Wb.drew.cell? ⟨S, 1, none⟩ = some (.string k1) ∧ Wb.drew.cell? ⟨S, 2, none⟩ = some (.string k2) := ⟨x1, x2⟩
              have s1 : (Wb.drew.alloc (.cells #[] 33)).cell? ⟨S, 1, none⟩ = some (.string k1) ∧ (Wb.drew.alloc (.cells #[] 33)).cell? ⟨S, 2, none⟩ = some (.string k2) := ⟨kept_new _ s0.1, kept_new _ s0.2⟩
              have HX : Hid (∀ W, Below Wb.heap.size Wb W → W.cell? ⟨S, 1, none⟩ = some (.string k1) ∧ W.cell? ⟨S, 2, none⟩ = some (.string k2)) := fun W hW => ⟨(hW.cell (p := ⟨S, 1, none⟩) hSW).trans s0.1, (hW.cell (p := ⟨S, 2, none⟩) hSW).trans s0.2⟩
              have HBA : Hid (Below Wb.heap.size Wb (Wb.drew.alloc (.cells #[] 33))) := ((Below.refl _ Wb).drew).alloc (Nat.le_refl _) _
              have HN0 : Hid (KK.Own Wb.heap.size (Wb.drew.alloc (.cells #[] 33)) (.slice (some ⟨Wb.heap.size, 0, none⟩) 0 0) []) := World.ownsRow_lit Wb.drew #[] 0 (Nat.le_refl _) (by decide) rfl
              have KS : Hid (Y.length = 0 ∨ ∃ ad, p7 = some ad ∧ ∀ j u, (KK.cells Y)[j]? = some u → (Wb.drew.alloc (.cells #[] 33)).cell? (ad.add j) = some u) := by
                obtain ⟨q, c, he, h⟩ := Kind.is_kept HOB.out HBA.out
                injection he with e1 _ _
                subst e1
                exact Kind.src h
              unfold Kind.Own at HN0
              go_region_held3 (fun w' => w'.cell? ⟨S, 1, none⟩ = some (.string k1) ∧ w'.cell? ⟨S, 2, none⟩ = some (.string k2)) (first | exact s0 | exact s1 | exact s5 | exact s6)
                (first
                  | (refine step_append_ky _ (by rfl) (.tmp 43) (.tmp 44) 28 (by rfl) Wb.heap.size 33 i0 (.agg #[.string ⟨#[]⟩, .string ⟨#[]⟩]) 2 32 Try.underlying28 HI.out hz0 hz1 hz2 rfl (by decide) _ _ _ (by rfl) HN0.out _ Y.length _ (KK.cells Y) (by rfl) (by rw [KK.cells_len]; rfl) KS.out (KK.cells_ones _) (by unfold maxLen; simp; omega) (by simp; omega) HBA.out.size ?_; intro v5 w5 hown5 hg5; have hb5 : Below Wb.heap.size Wb w5 := HBA.out.grown hg5 HBA.out.size (fun k hk => (World.ownsRow.lt HN0.out k hk).1); have s5 := HX.out w5 hb5; have hsz5 := hb5.size; have HB5 := hid hb5; rw [List.length_nil, Nat.zero_add] at hown5; have HO5 : Hid (KK.Own Wb.heap.size w5 v5 Y) := hown5; clear hown5 hg5 hb5)
                  | (go_at_call 8; refine (kput_at Wb.heap.size v5 Y (k1, k2) w5 HO5.out hsz5 HRI.out hYl).mono ?_; rintro e w6 ⟨u6, rfl, ho6, hq6⟩; have HB6 := hid (HB5.out.trans hq6); have s6 := HX.out w6 HB6.out; have HO6 := hid (Kind.own_is ho6); clear ho6 hq6))
              all_goals
                go_wp2_with fail
                go_roundg (bs.length - (j + 1))
                case measure => omega
                refine ⟨j + 1, by go_num, by omega, by omega, bel_then HBB.out HBB.out.size HB6.out, ?_⟩
                rw [HSN.out, if_pos (by trivial)]
                exact HO6.out
            · have hne := str_ne hbn
              have HNE := hid hbn
              clear hbn
              go_wp2_with fail
              try rw [hWb]
              go_roundg (bs.length - (j + 1))
              case measure => omega
              refine ⟨j + 1, by go_num, by omega, by omega, HBB.out, ?_⟩
              rw [HSN.out, if_neg HNE.out]
              exact HOB.out
          · have hljz : ¬ (j : Int) < (bs.length : Int) := by omega
            have hti : bs.take j = bs := List.take_of_length_le (by omega)
            rw [hti, ← HTK.out] at HO
            clear hti
            go_wp2_with fail
            go_roundg (T.length - (i + 1))
            case measure => omega
            exact ⟨i + 1, by go_num, by omega, by omega, HB.out, HO.out⟩
      · have hltz : ¬ (i : Int) < (T.length : Int) := by omega
        have hti : T.take i = T := List.take_of_length_le (by omega)
        rw [hti, ← HUN.out] at HO
        have hUl : (keysF F).length ≤ 2000000 := by
          unfold keysF
          refine Nat.le_trans (told_len _ _ _) ?_
          rw [← HM2.out, txtsX_flds]
          exact HT2.out
        have HPT : Hid (∀ W, Below w4.heap.size w4 W → ∀ k ∈ keysF F, Calls Try.prog 9 #[u2, .agg #[.string k.1, .string k.2]] W fun e w' => e = .returned (.bool true) ∧ Below W.heap.size W w') := fun W hW k hk => by
          have hpt := mem_keysF.1 hk
          obtain ⟨f, _, t, _, hnm⟩ := hpt
          obtain ⟨h1, h2⟩ := keyB_sizes (a := k.1) (b := k.2) (namedT_some hnm).2
          have := points_any u2 o2 k W (HN.out.kept hW) HF2.out (by unfold maxLen; omega) (by unfold maxLen; omega)
          rw [HM2.out, pointsB_iff.2 (mem_keysF.1 hk)] at this
          exact this
        have HKU : Hid (∀ W, Below w4.heap.size w4 W → Calls Try.prog 6 #[u2] W fun e w' => ∃ u, e = .returned u ∧ KK.Own W.heap.size w' u (keysF F) ∧ Below W.heap.size W w') := fun W hW => by
          have := keys_any u2 o2 W (HN.out.kept hW) HF2.out HT2.out
          rw [HM2.out] at this
          exact this
        obtain ⟨U, hU⟩ : ∃ U, keysF F = U := ⟨_, rfl⟩
        rw [hU] at HO hUl HPT HKU
        obtain ⟨p7, c7, rfl, hd7⟩ := HO.out
        clear hti hU hd7
        go_wp2_with fail
        go_loopg [53] U.length (fun g vi wr2 => ∃ q : Nat, vi = .int .i64 q ∧ q ≤ U.length ∧ U.length - q ≤ g ∧ Hid (Below w4.heap.size w4 wr2) ∧ Hid (KK.Is wr2 (.slice p7 U.length c7) U))
        case atStart => exact ⟨0, rfl, by omega, by omega, HB.out, HO.out⟩
        case round =>
          clear HB HO
          obtain ⟨q, rfl, hq, hgq, HB, HO⟩ := hrel
          by_cases hlq : q < U.length
          · have hlqz : (q : Int) < (U.length : Int) := by omega
            have hqz : (0 : Int) ≤ q := by omega
            obtain ⟨b7, off7, rfl, hat⟩ : ∃ b off, p7 = some ⟨b, off, none⟩ ∧ KK.At wr b off U := by
              obtain ⟨x, y, he, h⟩ := HO.out
              injection he with e1 _ _
              subst e1
              rcases h with h | h
              · rw [h] at hlq; simp at hlq
              · exact h
            obtain ⟨c0, c1⟩ := kk_at hat q hlq
            have hmem := List.getElem_mem hlq
            obtain ⟨k, hk⟩ : ∃ k, U[q] = k := ⟨_, rfl⟩
            rw [hk] at c0 c1 hmem
            have HBA := hid (HB.out.alloc HB.out.size (.cells #[.string k.1, .string k.2] 33))
            have HOA := hid (Kind.is_kept HO.out ((Below.refl _ _).alloc (Nat.le_refl _) (.cells #[.string k.1, .string k.2] 33)))
            have HPC := hid (HPT.out _ HBA.out k hmem)
            clear hat hmem hk
            go_wp2_with fail
            refine HPC.out.mono ?_
            rintro e w8 ⟨rfl, hq8⟩
            have HB8 := hid (bel_then HBA.out HBA.out.size hq8)
            have HO8 := hid (Kind.is_kept HOA.out hq8)
            clear hq8
            go_wp2_with fail
            go_roundg (U.length - (q + 1))
            case measure => omega
            exact ⟨q + 1, by go_num, by omega, by omega, HB8.out, HO8.out⟩
          · have hlqz : ¬ (q : Int) < (U.length : Int) := by omega
            go_wp2_with fail
            refine (HKU.out wr HB.out).mono ?_
            rintro e w8 ⟨u8, rfl, ho8, hq8⟩
            have HB8 := hid (bel_then HB.out HB.out.size hq8)
            have HS := hid (Z.zsame_any u8 (.slice p7 U.length c7) U U w8 (z_is_ky (Kind.own_is ho8)) (z_is_ky (Kind.is_kept HO.out hq8)) (by unfold maxLen; omega) (by unfold maxLen; omega))
            rw [decide_eq_true rfl] at HS
            clear ho8 hq8
            go_wp2_with fail
            refine HS.out.mono ?_
            rintro e w9 ⟨rfl, n9, rfl⟩
            go_wp2_with fail
            go_ret
            exact ⟨rfl, bel_drewN (bel_then HW.out HW.out.size HB8.out) n9⟩
  · obtain ⟨C, hC⟩ : ∃ C, rsCode bs (d.map Fx.fld) = C := ⟨_, rfl⟩
    rw [hC] at H1 hC0
    have hcn : (C != 0) = true := by rw [bne_iff_ne]; exact hC0
    clear hv hvb hf hc hT hfb hC0 hC HFT
    go_enter Try.func3, Try.ntmps3
    go_wp2_with fail
    refine (rfixed_any _).mono ?_
    rintro e w1 ⟨rfl, hq1⟩
    have HB1 := hid hq1
    clear hq1
    go_wp2_with fail
    refine (H1.out w1 HB1.out).mono ?_
    rintro e w2 ⟨u2, o2, rfl, ho2, hm2, hq2⟩
    have HB2 := hid (bel_then HB1.out HB1.out.size hq2)
    clear ho2 hm2 hq2 H1 HB1
    go_wp2_with fail
    go_ret
    exact ⟨rfl, HB2.out⟩

end Go.Proofs.Ytinmagodckkedab
