/-
  Texts of this claim, one behind the other: Pc0 Kst Rs0 Kr0 Spk Sh3 Ix Cut Kys Zcmp Zeq Zcomp2 Zord Zsortz Zkrow Zsame Zcompa Zrise Zsorta Nso Psh Tok Rtok Rp3 Mk0 Yt0 Yt1 Yr0 Zless Zputa Zput Tak Tkm Mr1.
-/
import Derived.Test.YtmihddbnddgfhaaPa
import Derived.Shelf.SlSortCmp.SmallK
import Derived.Lib.SlicesCompact
import Derived.Lib.SliceRun
import Derived.Shelf.Strings.Search1
import Derived.Shelf.Strings.Search2
import Derived.Shelf.Strings.Search3
import Derived.Shelf.Strings.Prefix
import Derived.Ground.Names2Prog
import Derived.Shelf.Slices.Clone
import Derived.Ground.SlgnProg
import Derived.Shelf.SlicesE.Clone
import Derived.Ground.SlgfProg
import Derived.Shelf.SlicesE.IndexFunc
import Derived.Test.YtmihddbnddgfhaaProg
import Derived.Shelf.SlGeneric
import Derived.Shelf.SlicesQ.IndexFunc
import Derived.Shelf.SlSortCmp.InsertionK
import Derived.Ground.NamesProg
import Derived.Shelf.Lays
import Derived.Lib.Bytealg
import Derived.Lib.IndexBytes
import Derived.Deep.QuietTactic
import Derived.BigQuiet
import Derived.Deep.RegionHeld3
import Derived.Deep.DrawnRows
import Derived.LoopN
import Derived.Laws.StructEq
import Derived.Shelf.SlSortCmp.WholeK
import Derived.Laws.OwnMore
import Derived.Deep.LoopGhost
import Derived.Deep.AppendLies
import Derived.OwnWalk
/-
  Rows of terms: one written over, cut short, sorted; the order as compare has it; what is left of a sorted row without its doubles.
-/
namespace Go.Proofs.Ytmihddbnddgfhaa
open Go.RowKit Go.Sort Go.Lib

theorem km_set (d : List Tm) (i : Nat) (h : i < d.length) (x : Tm) : KM.cells (d.set i x) = (((KM.cells d).set (i * 3) (.string x.1)).set (i * 3 + 1) (.int .i64 x.2.1)).set (i * 3 + 2) (.string x.2.2) := by
  apply List.ext_getElem?
  intro j
  rw [KM.cells_set d i h x j]
  have hl : (KM.cells d).length = d.length * 3 := KM.cells_len d
  have hk : KM.k = 3 := rfl
  rw [hk]
  simp only [List.getElem?_set, List.length_set, hl]
  by_cases h0 : j = i * 3
  · subst h0
    simp [KM, encM]
    omega
  · by_cases h1 : j = i * 3 + 1
    · subst h1
      simp [KM, encM]
      omega
    · by_cases h2 : j = i * 3 + 2
      · subst h2
        simp [KM, encM]
        omega
      · rw [if_neg (by omega), if_neg (fun e => h2 e.symm), if_neg (fun e => h1 e.symm), if_neg (fun e => h0 e.symm)]

/-- A term written over. -/
theorem own_put {n0 g n cap : Nat} {w : World} {d : List Tm} (h : KM.Own n0 w (.slice (some ⟨g, 0, none⟩) n cap) d) (hn : d.length = n) (i : Nat) (hi : i < d.length) (x : Tm) :
    KM.Own n0 (((w.setCell ⟨g, i * 3, none⟩ (.string x.1)).setCell ⟨g, i * 3 + 1, none⟩ (.int .i64 x.2.1)).setCell ⟨g, i * 3 + 2, none⟩ (.string x.2.2)) (.slice (some ⟨g, 0, none⟩) n cap) (d.set i x) := by
  subst hn
  have h1 := World.ownsRow.stored h (i * 3) (.string x.1)
  have h2 := World.ownsRow.stored h1.1 (i * 3 + 1) (.int .i64 x.2.1)
  have h3 := World.ownsRow.stored h2.1 (i * 3 + 2) (.string x.2.2)
  unfold Kind.Own
  rw [km_set d i hi x, List.length_set]
  exact h3.1

theorem km_take (d : List Tm) (k : Nat) : KM.cells (d.take k) = (KM.cells d).take (k * 3) := by
  apply List.ext_getElem?
  intro j
  by_cases hk : k ≤ d.length
  · rw [List.getElem?_take]
    by_cases hj : j < k * 3
    · rw [if_pos hj]
      have hq : j / 3 < k := by omega
      have hm : j % 3 < 3 := by omega
      have e : j / 3 * 3 + j % 3 = j := by omega
      have h1 := KM.cells_get (d.take k) (j / 3) (by rw [List.length_take]; omega) (j % 3) hm
      have h2 := KM.cells_get d (j / 3) (by omega) (j % 3) hm
      have hk3 : KM.k = 3 := rfl
      rw [hk3, e] at h1 h2
      rw [h1, h2, List.getElem_take]
    · rw [if_neg hj, List.getElem?_eq_none]
      have := KM.cells_len (d.take k)
      have hk3 : KM.k = 3 := rfl
      rw [this, hk3, List.length_take]
      omega
  · rw [List.take_of_length_le (by omega), List.take_of_length_le (by rw [KM.cells_len]; show d.length * 3 ≤ _; omega)]

/-- The row cut short. -/
theorem own_cut {n0 g n cap : Nat} {w : World} {d : List Tm} (h : KM.Own n0 w (.slice (some ⟨g, 0, none⟩) n cap) d) (k : Nat) (hk : k ≤ d.length) :
    KM.Own n0 w (.slice (some ⟨g, 0, none⟩) k cap) (d.take k) := by
  have hl : (d.take k).length = k := by rw [List.length_take]; omega
  rcases h.2 with ⟨hv, _⟩ | ⟨g', cap', cur, hv, h1, h2, h3, h4, h5, h6⟩
  · cases hv
  · injection hv with e1 e2 e3
    injection e1 with e1
    injection e1 with e1 _ _
    subst e1 e3
    refine ⟨by rw [KM.cells_len], Or.inr ⟨g, cap, cur, by rw [hl], h1, h2, by rw [hl]; omega, h4, h5, ?_⟩⟩
    rw [hl, km_take, ← h6, List.take_take]
    congr 1
    have hk3 : KM.k = 3 := rfl
    rw [hk3]
    omega

/-- Cells behind the row's end written over. -/
theorem own_past {n0 g n cap : Nat} {d : List Tm} (vs : List Value) : ∀ (w : World) (o : Nat), KM.Own n0 w (.slice (some ⟨g, 0, none⟩) n cap) d → d.length = n → n * 3 ≤ o → KM.Own n0 (w.setCells g o vs) (.slice (some ⟨g, 0, none⟩) n cap) d := by
  induction vs with
  | nil => intro w o h _ _; exact h
  | cons v vs ih =>
    intro w o h hn ho
    rw [World.setCells]
    refine ih _ _ ?_ hn (by omega)
    subst hn
    have h1 := (World.ownsRow.stored h o v).1
    rw [List.set_eq_of_length_le (by rw [KM.cells_len]; exact ho)] at h1
    exact h1

theorem grown_sets {g : Nat} (vs : List Value) : ∀ (w w0 : World) (o : Nat), w0.grownBy w (some g) → w0.grownBy (w.setCells g o vs) (some g) := by
  induction vs with
  | nil => intro w w0 o h; exact h
  | cons v vs ih => intro w w0 o h; rw [World.setCells]; exact ih _ _ _ (grown_trans h (grown_set w g o v))

theorem km_flat : ∀ (d : List Tm) (t : Nat), t < d.length * 3 → (KM.cells d)[t]? = some (encM d[t / 3]!)[t % 3]! := by
  intro d t h
  have hq : t / 3 < d.length := by omega
  have hm : t % 3 < 3 := by omega
  have e : t / 3 * 3 + t % 3 = t := by omega
  have h1 := KM.cells_get d (t / 3) hq (t % 3) hm
  have hk3 : KM.k = 3 := rfl
  rw [hk3, e] at h1
  rw [h1, getElem!_pos d (t / 3) hq]
  have hl : (encM d[t / 3]).length = 3 := rfl
  show (encM d[t / 3])[t % 3]? = _
  rw [List.getElem?_eq_getElem (by rw [hl]; exact hm), getElem!_pos _ _ (by rw [hl]; exact hm)]

theorem own_holds {n0 g n cap : Nat} {w : World} {d : List Tm} (h : KM.Own n0 w (.slice (some ⟨g, 0, none⟩) n cap) d) : HoldsK encM 3 w g 0 d.toArray := by
  rcases h.2 with ⟨hv, _⟩ | ⟨g', cap', cur, hv, h1, h2, h3, h4, h5, h6⟩
  · cases hv
  · injection hv with e1 e2 e3
    injection e1 with e1
    injection e1 with e1 _ _
    subst e1
    intro j hj
    rw [size_flatK] at hj
    have hj' : j < d.length * 3 := by simpa using hj
    have hg := km_flat d j hj'
    have hk3 : KM.k = 3 := rfl
    rw [← h6, hk3, List.getElem?_take_of_lt hj'] at hg
    rw [get_flatK _ _ _ _ hj]
    constructor
    · simp only [World.cell?, h2, Nat.zero_add]
      have he : d[j / 3]! = d.toArray[j / 3]! := by
        rw [getElem!_pos d (j / 3) (by omega), getElem!_pos d.toArray (j / 3) (by simp; omega)]; simp
      rw [← Array.getElem?_toList, hg, he]
      rfl
    · simp [World.frozen?, h2]

theorem below_sortM {B : Nat} {w0 w : World} (h : Below B w0 w) (hB : B ≤ w.heap.size) (blk off n : Nat) (d : Array Tm) (os : Array Obj) (hb : B ≤ blk) : Below B w0 (sortWorldK encM 3 w blk off n d os) := by
  refine h.trans ⟨rfl, rfl, rfl, ?_, ?_⟩
  · simp [sortWorldK, putRowK]
  · intro k hk
    have hks : k < w.heap.size := by omega
    simp only [sortWorldK, Sort.grow, putRowK, putRow, mapBlock, Sort.ahead]
    rw [Array.getElem?_append_left (by simpa using hks), Array.getElem?_modify, if_neg (by omega)]

/-- A row whose terms have been put in another order. -/
theorem own_sorted {n0 g n cap : Nat} {w : World} {d : List Tm} (h : KM.Own n0 w (.slice (some ⟨g, 0, none⟩) n cap) d) (e : Array Tm) (he : e.size = d.length) (m : Nat) (os : Array Obj) :
    KM.Own n0 (sortWorldK encM 3 w g 0 m e os) (.slice (some ⟨g, 0, none⟩) n cap) e.toList := by
  have hH := own_holds h
  rcases h.2 with ⟨hv, _⟩ | ⟨g', cap', cur, hv, h1, h2, h3, h4, h5, h6⟩
  · cases hv
  · injection hv with e1 e2 e3
    injection e1 with e1
    injection e1 with e1 _ _
    subst e1 e2 e3
    have hgl := (Array.getElem?_eq_some_iff.1 h2).1
    have hl : e.toList.length = d.length := by simpa using he
    have hheap : (sortWorldK encM 3 w g 0 m e os).heap[g]? = some (.cells (putCells id 0 (flatK encM 3 e) cur) KM.T (0, 0)) := by
      simp only [sortWorldK, Sort.grow, putRowK, putRow, mapBlock, Sort.ahead]
      rw [Array.getElem?_append_left (by simpa using hgl), Array.getElem?_modify, if_pos rfl, h2]
      rfl
    have hH2 : HoldsK encM 3 (sortWorldK encM 3 w g 0 m e os) g 0 e := by
      exact holdsK_grow encM 3 _ os g 0 _ (by simpa [putRowK] using hgl) (holdsK_putRowK encM 3 (Sort.ahead w m) g 0 _ _ (holdsK_ahead encM 3 w m g 0 _ hH) (by simpa using he))
    have hsz : (putCells id 0 (flatK encM 3 e) cur).size = cur.size := by simp [putCells]
    refine ⟨by rw [KM.cells_len], Or.inr ⟨g, cap, _, by rw [hl], h1, hheap, by rw [hl]; exact h3, h4, by rw [hsz]; exact h5, ?_⟩⟩
    apply List.ext_getElem?
    intro j
    have hk3 : KM.k = 3 := rfl
    rw [hl, hk3, List.getElem?_take]
    by_cases hj : j < d.length * 3
    · rw [if_pos hj, km_flat e.toList j (by omega)]
      have := (hH2 j (by rw [size_flatK]; omega)).1
      rw [get_flatK _ _ _ _ (by omega)] at this
      simp only [World.cell?, hheap, Nat.zero_add] at this
      simp only [Option.isSome_none, Bool.false_eq_true, if_false] at this
      rw [Array.getElem?_toList, this]
      have he2 : e.toList[j / 3]! = e[j / 3]! := by
        rw [getElem!_pos e (j / 3) (by omega), getElem!_pos e.toList (j / 3) (by simp; omega)]; simp
      rw [he2]
      rfl
    · rw [if_neg hj, List.getElem?_eq_none]
      rw [KM.cells_len, hk3, hl]
      omega

/-- What compare answers. -/
def cmpM (x y : Tm) : Int := pairI (Lib.compareBytes x.1.data.toList y.1.data.toList) (pairI (Lib.compareInt x.2.1 y.2.1) (Lib.compareBytes x.2.2.data.toList y.2.2.data.toList))

theorem pairI_zero (y : Int) : pairI 0 y = y := rfl
theorem pairI_ne {x : Int} (h : x ≠ 0) (y : Int) : pairI x y = x := by unfold pairI; rw [if_neg h]

theorem cmpM_lt (x y : Tm) : ltOf cmpM x y = ltM x y := by
  obtain ⟨a1, a2, a3⟩ := x
  obtain ⟨b1, b2, b3⟩ := y
  show decide (pairI (Lib.compareBytes a1.data.toList b1.data.toList) (pairI (Lib.compareInt a2 b2) (Lib.compareBytes a3.data.toList b3.data.toList)) < 0) = if a1 ≠ b1 then ltB a1 b1 else if a2 ≠ b2 then decide (a2 < b2) else ltB a3 b3
  by_cases h1 : a1 = b1
  · subst h1
    rw [if_neg (show ¬ (a1 ≠ a1) by simp), cb_self, pairI_zero]
    by_cases h2 : a2 = b2
    · subst h2
      have hc : Lib.compareInt a2 a2 = 0 := by unfold Lib.compareInt; simp
      rw [if_neg (show ¬ (a2 ≠ a2) by simp), hc, pairI_zero]
      rfl
    · rw [if_pos h2]
      rcases Int.lt_or_gt_of_ne h2 with h | h
      · have hc : Lib.compareInt a2 b2 = -1 := by unfold Lib.compareInt; simp [h]
        rw [hc, pairI_ne (by decide)]
        simp [h]
      · have hn : ¬ a2 < b2 := by omega
        have hc : Lib.compareInt a2 b2 = 1 := by unfold Lib.compareInt; simp [hn, h]
        rw [hc, pairI_ne (by decide)]
        simp [hn]
  · have hc : Lib.compareBytes a1.data.toList b1.data.toList ≠ 0 := fun e => h1 (ba_eq ((cb_zero _ _).1 e))
    rw [if_pos h1, pairI_ne hc]
    rfl

theorem swoM : SWO (ltOf cmpM) where
  irrefl x := by rw [cmpM_lt]; exact ltM_irrefl x
  trans x y z h1 h2 := by rw [cmpM_lt] at *; exact ltM_trans h1 h2
  ntrans x y z h1 h2 := by
    rw [cmpM_lt] at *
    cases h : ltM x z with
    | false => rfl
    | true =>
      rcases ltM_cases x y with h3 | h3 | h3
      · rw [h1] at h3; cases h3
      · rw [h3, h2] at h; cases h
      · rw [ltM_trans h3 h] at h2; cases h2

/-- A sorted row without its doubles is rising. -/
theorem compact_sorted {d : Array Tm} (hs : SortedIn (ltOf cmpM) 0 d.size d) : RisingM (compactUpTo d d.size) ∧ ∀ x, x ∈ compactUpTo d d.size ↔ x ∈ d.toList := by
  have hle : ∀ i j, i ≤ j → j < d.size → ltM d[j]! d[i]! = false := by
    intro i j hij hj
    rcases Nat.lt_or_ge i j with h | h
    · have := hs i j (Nat.zero_le _) h hj
      rwa [cmpM_lt] at this
    · obtain rfl : i = j := by omega
      exact ltM_irrefl _
  have key : ∀ m, m ≤ d.size → RisingM (compactUpTo d m) ∧ ∀ x, x ∈ compactUpTo d m ↔ ∃ j, j < m ∧ d[j]! = x := by
    intro m
    induction m with
    | zero => intro _; exact ⟨List.Pairwise.nil, fun x => by simp [compactUpTo]⟩
    | succ m ih =>
      intro hm
      obtain ⟨h1, h2⟩ := ih (by omega)
      rw [compactUpTo_succ]
      cases hk : keeps d m with
      | true =>
        rw [if_pos rfl]
        constructor
        · refine List.pairwise_append.2 ⟨h1, List.pairwise_singleton _ _, fun x hx y hy => ?_⟩
          rw [List.mem_singleton] at hy
          subst hy
          obtain ⟨j, hj, rfl⟩ := (h2 x).1 hx
          have hne : d[m]! ≠ d[m - 1]! := by
            unfold keeps at hk
            rcases of_decide_eq_true hk with h | h
            · omega
            · exact h
          have ha := hle j (m - 1) (by omega) (by omega)
          have hb := hle (m - 1) m (by omega) (by omega)
          rcases ltM_cases d[j]! d[m]! with h | h | h
          · exact h
          · rw [h] at ha
            rcases ltM_cases d[m - 1]! d[m]! with h' | h' | h'
            · rw [ha] at h'; cases h'
            · exact absurd h'.symm hne
            · rw [hb] at h'; cases h'
          · rw [hle j m (by omega) (by omega)] at h; cases h
        · intro x
          rw [List.mem_append, List.mem_singleton, h2]
          constructor
          · rintro (⟨j, hj, e⟩ | e)
            · exact ⟨j, by omega, e⟩
            · exact ⟨m, by omega, e.symm⟩
          · rintro ⟨j, hj, e⟩
            by_cases hjm : j = m
            · subst hjm; exact Or.inr e.symm
            · exact Or.inl ⟨j, by omega, e⟩
      | false =>
        rw [if_neg (by simp), List.append_nil]
        refine ⟨h1, fun x => ?_⟩
        rw [h2]
        constructor
        · rintro ⟨j, hj, e⟩
          exact ⟨j, by omega, e⟩
        · rintro ⟨j, hj, e⟩
          by_cases hjm : j = m
          · subst hjm
            have hh : ¬ (j = 0 ∨ d[j]! ≠ d[j - 1]!) := by unfold keeps at hk; exact of_decide_eq_false hk
            have h0 : j ≠ 0 := fun e => hh (Or.inl e)
            have h3 : d[j]! = d[j - 1]! := Classical.byContradiction fun e => hh (Or.inr e)
            exact ⟨j - 1, by omega, by rw [← h3]; exact e⟩
          · exact ⟨j, by omega, e⟩
  obtain ⟨h1, h2⟩ := key d.size (Nat.le_refl _)
  refine ⟨h1, fun x => (h2 x).trans ?_⟩
  rw [List.mem_iff_getElem]
  constructor
  · rintro ⟨j, hj, e⟩
    exact ⟨j, by simpa using hj, by rw [← e, getElem!_pos d j hj]; simp⟩
  · rintro ⟨j, hj, e⟩
    have hj' : j < d.size := by simpa using hj
    exact ⟨j, hj', by rw [getElem!_pos d j hj', ← e]; simp⟩

end Go.Proofs.Ytmihddbnddgfhaa

/-
  An element written over in a row of its own (Ksu), beside Pc0's rows.
-/
namespace Go.Proofs.Ytmihddbnddgfhaa
end Go.Proofs.Ytmihddbnddgfhaa

/-
  Rising lists: one more in its place; the order of keys. No program.
-/
namespace Go.Proofs.Ytmihddbnddgfhaa
open Go.RowKit Go.Lib

abbrev Ky := ByteArray × ByteArray

structure Tot {α : Type} (lt : α → α → Bool) : Prop where
  irr : ∀ a, lt a a = false
  tr : ∀ a b c, lt a b = true → lt b c = true → lt a c = true
  tot : ∀ a b, lt a b = true ∨ a = b ∨ lt b a = true

def RisingR {α : Type} (lt : α → α → Bool) (l : List α) : Prop := l.Pairwise fun x y => lt x y = true

def insR {α : Type} [DecidableEq α] (lt : α → α → Bool) (x : α) : List α → List α
  | [] => [x]
  | y :: r => if lt x y then x :: y :: r else if x = y then y :: r else y :: insR lt x r

theorem mem_insR {α : Type} [DecidableEq α] (lt : α → α → Bool) (x z : α) (l : List α) : z ∈ insR lt x l ↔ z = x ∨ z ∈ l := by
  induction l with
  | nil => simp [insR]
  | cons y r ih =>
    unfold insR
    split
    · simp
    · split
      · next h => subst h; simp
      · rw [List.mem_cons, ih, List.mem_cons]
        constructor
        · rintro (h | h | h)
          · exact Or.inr (Or.inl h)
          · exact Or.inl h
          · exact Or.inr (Or.inr h)
        · rintro (h | h | h)
          · exact Or.inr (Or.inl h)
          · exact Or.inl h
          · exact Or.inr (Or.inr h)

theorem rising_insR {α : Type} [DecidableEq α] {lt : α → α → Bool} (T : Tot lt) (x : α) {l : List α} (h : RisingR lt l) : RisingR lt (insR lt x l) := by
  induction l with
  | nil => exact List.pairwise_cons.2 ⟨fun _ h => by simp at h, List.Pairwise.nil⟩
  | cons y r ih =>
    obtain ⟨h1, h2⟩ := List.pairwise_cons.1 h
    unfold insR
    split
    · next hx =>
      refine List.pairwise_cons.2 ⟨fun z hz => ?_, h⟩
      rcases List.mem_cons.1 hz with rfl | hz
      · exact hx
      · exact T.tr _ _ _ hx (h1 z hz)
    · next hx =>
      split
      · exact h
      · next hne =>
        refine List.pairwise_cons.2 ⟨fun z hz => ?_, ih h2⟩
        rcases (mem_insR lt x z r).1 hz with rfl | hz
        · rcases T.tot y z with h | h | h
          · exact h
          · exact absurd h.symm hne
          · exact absurd h hx
        · exact h1 z hz

theorem rising_uniqR {α : Type} {lt : α → α → Bool} (T : Tot lt) : ∀ {r s : List α}, RisingR lt r → RisingR lt s → (∀ x, x ∈ r ↔ x ∈ s) → r = s
  | [], [], _, _, _ => rfl
  | [], y :: s, _, _, h => by have := (h y).2 (by simp); simp at this
  | x :: r, [], _, _, h => by have := (h x).1 (by simp); simp at this
  | x :: r, y :: s, hr, hs, h => by
    obtain ⟨r1, r2⟩ := List.pairwise_cons.1 hr
    obtain ⟨s1, s2⟩ := List.pairwise_cons.1 hs
    have hxy : x = y := by
      rcases List.mem_cons.1 ((h x).1 (by simp)) with e | hx
      · exact e
      · rcases List.mem_cons.1 ((h y).2 (by simp)) with e | hy
        · exact e.symm
        · have h1 := T.tr _ _ _ (r1 y hy) (s1 x hx)
          rw [T.irr] at h1
          cases h1
    subst hxy
    rw [rising_uniqR T r2 s2 fun z => ?_]
    constructor
    · intro hz
      rcases List.mem_cons.1 ((h z).1 (List.mem_cons_of_mem _ hz)) with e | hz'
      · subst e; have := r1 z hz; rw [T.irr] at this; cases this
      · exact hz'
    · intro hz
      rcases List.mem_cons.1 ((h z).2 (List.mem_cons_of_mem _ hz)) with e | hz'
      · subst e; have := s1 z hz; rw [T.irr] at this; cases this
      · exact hz'

/-- One more, where the search has found its place. -/
theorem insR_at {α : Type} [DecidableEq α] {lt : α → α → Bool} (T : Tot lt) (x : α) : ∀ (l : List α) (p : Nat), p ≤ l.length → (∀ i, (h : i < p) → (h' : i < l.length) → lt l[i] x = true) → (∀ h : p < l.length, lt x l[p] = true) → insR lt x l = l.take p ++ x :: l.drop p
  | [], 0, _, _, _ => rfl
  | [], p + 1, h, _, _ => absurd h (by simp)
  | y :: r, 0, _, _, h2 => by
    have := h2 (by simp)
    simp only [List.getElem_cons_zero] at this
    unfold insR
    rw [if_pos this]
    rfl
  | y :: r, p + 1, h, h1, h2 => by
    have hy := h1 0 (by omega) (by simp)
    simp only [List.getElem_cons_zero] at hy
    have hxy : lt x y = false := by
      cases e : lt x y with
      | false => rfl
      | true => have := T.tr _ _ _ hy e; rw [T.irr] at this; cases this
    have hne : x ≠ y := fun e => by subst e; rw [T.irr] at hy; cases hy
    unfold insR
    rw [if_neg (by rw [hxy]; simp), if_neg hne, insR_at T x r p (by simpa using h) (fun i hi hi' => ?_) (fun hp => ?_)]
    · rfl
    · have := h1 (i + 1) (by omega) (by simpa using hi')
      simpa using this
    · have := h2 (by simpa using hp)
      simpa using this

/-- One that is there already. -/
theorem insR_there {α : Type} [DecidableEq α] {lt : α → α → Bool} (T : Tot lt) {x : α} {l : List α} (h : RisingR lt l) (hx : x ∈ l) : insR lt x l = l :=
  rising_uniqR T (rising_insR T x h) h fun z => by
    rw [mem_insR]
    exact ⟨fun hz => by rcases hz with rfl | hz <;> assumption, Or.inr⟩

/-- What a search by halves finds out at the place m. -/
theorem rising_low {α : Type} {lt : α → α → Bool} (T : Tot lt) {l : List α} (h : RisingR lt l) {x : α} {m : Nat} (hm : m < l.length) (hx : lt l[m] x = true) : ∀ i, (hi : i ≤ m) → lt (l[i]'(by omega)) x = true := by
  intro i hi
  rcases Nat.lt_or_eq_of_le hi with hlt | rfl
  · exact T.tr _ _ _ (List.pairwise_iff_getElem.1 h i m (by omega) hm hlt) hx
  · exact hx

theorem rising_high {α : Type} {lt : α → α → Bool} (T : Tot lt) {l : List α} (h : RisingR lt l) {x : α} {m : Nat} (hm : m < l.length) (hx : lt l[m] x = false) : ∀ i, (hi : m ≤ i) → (h' : i < l.length) → lt l[i] x = false := by
  intro i hi h'
  rcases Nat.lt_or_eq_of_le hi with hlt | rfl
  · cases e : lt l[i] x with
    | false => rfl
    | true =>
      have := T.tr _ _ _ (List.pairwise_iff_getElem.1 h m i hm h' hlt) e
      rw [hx] at this
      cases this
  · exact hx

/-- The place that a search by halves ends at: what is there already, or where it goes. -/
theorem put_there {α : Type} [DecidableEq α] {lt : α → α → Bool} (T : Tot lt) {l : List α} (h : RisingR lt l) {x : α} {p : Nat} (hp : p < l.length) (he : l[p] = x) : insR lt x l = l :=
  insR_there T h (by rw [← he]; exact List.getElem_mem hp)

theorem put_new {α : Type} [DecidableEq α] {lt : α → α → Bool} (T : Tot lt) {l : List α} {x : α} {p : Nat} (hp : p ≤ l.length) (h1 : ∀ i, (h : i < p) → (h' : i < l.length) → lt l[i] x = true) (h2 : ∀ h : p < l.length, lt l[p] x = false) (hne : ∀ h : p < l.length, l[p] ≠ x) :
    insR lt x l = l.take p ++ x :: l.drop p :=
  insR_at T x l p hp h1 fun h => by
    rcases T.tot x l[p] with e | e | e
    · exact e
    · exact absurd e.symm (hne h)
    · rw [h2 h] at e; cases e

theorem totB : Tot ltB := ⟨ltB_irrefl, fun _ _ _ => ltB_trans, ltB_cases⟩

def ltKy (a b : Ky) : Bool := ltB a.1 b.1 || (decide (a.1 = b.1) && ltB a.2 b.2)

theorem ltKy_true {a b : Ky} : ltKy a b = true ↔ ltB a.1 b.1 = true ∨ a.1 = b.1 ∧ ltB a.2 b.2 = true := by simp [ltKy]

theorem totK : Tot ltKy where
  irr a := by
    cases h : ltKy a a with
    | false => rfl
    | true =>
      rcases ltKy_true.1 h with h | ⟨_, h⟩
      · rw [ltB_irrefl] at h; cases h
      · rw [ltB_irrefl] at h; cases h
  tr a b c h k := by
    rw [ltKy_true] at *
    rcases h with h | ⟨h, h'⟩ <;> rcases k with k | ⟨k, k'⟩
    · exact Or.inl (ltB_trans h k)
    · exact Or.inl (by rw [← k]; exact h)
    · exact Or.inl (by rw [h]; exact k)
    · exact Or.inr ⟨h.trans k, ltB_trans h' k'⟩
  tot a b := by
    rw [ltKy_true, ltKy_true]
    rcases ltB_cases a.1 b.1 with h | h | h
    · exact Or.inl (Or.inl h)
    · rcases ltB_cases a.2 b.2 with k | k | k
      · exact Or.inl (Or.inr ⟨h, k⟩)
      · exact Or.inr (Or.inl (Prod.ext h k))
      · exact Or.inr (Or.inr (Or.inr ⟨h.symm, k⟩))
    · exact Or.inr (Or.inr (Or.inl h))

end Go.Proofs.Ytmihddbnddgfhaa

/-
  Rows of texts and keys; rows cut short, sorted, written behind their end, whatever their kind.
-/
namespace Go.Proofs.Ytmihddbnddgfhaa
open Go.RowKit Go.Sort Go.Lib
def encKy (x : Ky) : List Value := [.string x.1, .string x.2]
def KK : Kind Ky := ⟨67, 2, encKy, fun _ => rfl, by decide, fun x u hu => by simp [encKy] at hu; rcases hu with rfl | rfl <;> rfl⟩

theorem kt_cells (d : List ByteArray) : KT.cells d = d.map Value.string := by
  induction d with
  | nil => rfl
  | cons x d ih =>
    have : KT.cells (x :: d) = Value.string x :: KT.cells d := rfl
    rw [this, ih]; rfl

theorem kt_own {n0 : Nat} {w : World} {v : Value} {d : List ByteArray} : KT.Own n0 w v d ↔ OwnT n0 w v d := by
  unfold Kind.Own OwnT
  rw [kt_cells]
  rfl

theorem kt_at {w : World} {b off : Nat} {d : List ByteArray} : KT.At w b off d ↔ ∀ i, (h : i < d.length) → w.cell? ⟨b, off + i, none⟩ = some (.string d[i]) := by
  constructor
  · intro h i hi
    have := h i hi 0 (.string d[i]) rfl
    have e : off + i * KT.k + 0 = off + i := by show off + i * 1 + 0 = _; omega
    rwa [e] at this
  · intro h i hi j u hu
    have hj : j = 0 := by
      have := (List.getElem?_eq_some_iff.1 hu).1
      have hl : (KT.enc d[i]).length = 1 := rfl
      omega
    subst hj
    have e : off + i * KT.k + 0 = off + i := by show off + i * 1 + 0 = _; omega
    rw [e, h i hi]
    exact hu

theorem kt_txt {w : World} {p : Option Addr} {d : List ByteArray} : TxtAt w p d ↔ (d = [] ∨ ∃ b off, p = some ⟨b, off, none⟩ ∧ KT.At w b off d) := by
  unfold TxtAt
  constructor
  · rintro (h | ⟨b, off, hp, h⟩)
    · exact Or.inl h
    · exact Or.inr ⟨b, off, hp, kt_at.2 h⟩
  · rintro (h | ⟨b, off, hp, h⟩)
    · exact Or.inl h
    · exact Or.inr ⟨b, off, hp, kt_at.1 h⟩

theorem kk_at {w : World} {b off : Nat} {d : List Ky} (h : KK.At w b off d) (i : Nat) (hi : i < d.length) : w.cell? ⟨b, off + i * 2, none⟩ = some (.string d[i].1) ∧ w.cell? ⟨b, off + i * 2 + 1, none⟩ = some (.string d[i].2) :=
  ⟨h i hi 0 _ rfl, h i hi 1 _ rfl⟩

theorem Kind.take_cells {α : Type} (K : Kind α) : ∀ (d : List α) (k : Nat), K.cells (d.take k) = (K.cells d).take (k * K.k)
  | [], k => by simp [Kind.cells]
  | x :: d, 0 => by simp [Kind.cells]
  | x :: d, k + 1 => by
    have e1 : K.cells (x :: d) = K.enc x ++ K.cells d := rfl
    have e2 : K.cells ((x :: d).take (k + 1)) = K.enc x ++ K.cells (d.take k) := rfl
    have h1 : (K.enc x).take (k * K.k + K.k) = K.enc x := List.take_of_length_le (by rw [K.len]; omega)
    rw [e1, e2, K.take_cells d k, Nat.add_mul, Nat.one_mul, List.take_append, h1, K.len, Nat.add_sub_cancel]

/-- The row cut short. -/
theorem Kind.own_cut {α : Type} {K : Kind α} {n0 g n cap : Nat} {w : World} {d : List α} (h : K.Own n0 w (.slice (some ⟨g, 0, none⟩) n cap) d) (k : Nat) (hk : k ≤ d.length) :
    K.Own n0 w (.slice (some ⟨g, 0, none⟩) k cap) (d.take k) := by
  have hl : (d.take k).length = k := by rw [List.length_take]; omega
  rcases h.2 with ⟨hv, _⟩ | ⟨g', cap', cur, hv, h1, h2, h3, h4, h5, h6⟩
  · cases hv
  · injection hv with e1 e2 e3
    injection e1 with e1
    injection e1 with e1 _ _
    subst e1 e3
    refine ⟨by rw [K.cells_len], Or.inr ⟨g, cap, cur, by rw [hl], h1, h2, by rw [hl]; omega, h4, h5, ?_⟩⟩
    rw [hl, K.take_cells, ← h6, List.take_take]
    congr 1
    have := Nat.mul_le_mul_right K.k hk
    omega

/-- Cells behind the row's end written over. -/
theorem Kind.own_past {α : Type} {K : Kind α} {n0 g n cap : Nat} {d : List α} (vs : List Value) : ∀ (w : World) (o : Nat), K.Own n0 w (.slice (some ⟨g, 0, none⟩) n cap) d → d.length = n → n * K.k ≤ o → K.Own n0 (w.setCells g o vs) (.slice (some ⟨g, 0, none⟩) n cap) d := by
  induction vs with
  | nil => intro w o h _ _; exact h
  | cons v vs ih =>
    intro w o h hn ho
    rw [World.setCells]
    refine ih _ _ ?_ hn (by omega)
    subst hn
    have h1 := (World.ownsRow.stored h o v).1
    rw [List.set_eq_of_length_le (by rw [K.cells_len]; exact ho)] at h1
    exact h1

theorem Kind.flat {α : Type} [Inhabited α] (K : Kind α) (d : List α) (t : Nat) (h : t < d.length * K.k) : (K.cells d)[t]? = some (K.enc d[t / K.k]!)[t % K.k]! := by
  have hq : t / K.k < d.length := (Nat.div_lt_iff_lt_mul K.pos).2 h
  have hm : t % K.k < K.k := Nat.mod_lt _ K.pos
  have e : t / K.k * K.k + t % K.k = t := by rw [Nat.mul_comm]; exact Nat.div_add_mod t K.k
  have h1 := K.cells_get d (t / K.k) hq (t % K.k) hm
  rw [e] at h1
  rw [h1, getElem!_pos d (t / K.k) hq, List.getElem?_eq_getElem (by rw [K.len]; exact hm), getElem!_pos _ _ (by rw [K.len]; exact hm)]

theorem Kind.own_holds {α : Type} [Inhabited α] {K : Kind α} {n0 g n cap : Nat} {w : World} {d : List α} (h : K.Own n0 w (.slice (some ⟨g, 0, none⟩) n cap) d) : HoldsK K.enc K.k w g 0 d.toArray := by
  rcases h.2 with ⟨hv, _⟩ | ⟨g', cap', cur, hv, h1, h2, h3, h4, h5, h6⟩
  · cases hv
  · injection hv with e1 e2 e3
    injection e1 with e1
    injection e1 with e1 _ _
    subst e1
    intro j hj
    rw [size_flatK] at hj
    have hj' : j < d.length * K.k := by simpa using hj
    have hg := K.flat d j hj'
    rw [← h6, List.getElem?_take_of_lt hj'] at hg
    rw [get_flatK _ _ _ _ hj]
    constructor
    · simp only [World.cell?, h2, Nat.zero_add]
      have hq : j / K.k < d.length := (Nat.div_lt_iff_lt_mul K.pos).2 hj'
      have he : d[j / K.k]! = d.toArray[j / K.k]! := by
        rw [getElem!_pos d (j / K.k) hq, getElem!_pos d.toArray (j / K.k) (by simpa using hq)]; simp
      rw [← Array.getElem?_toList, hg, he]
      rfl
    · simp [World.frozen?, h2]

theorem below_sortK {α : Type} [Inhabited α] (enc : α → List Value) (k : Nat) {B : Nat} {w0 w : World} (h : Below B w0 w) (hB : B ≤ w.heap.size) (blk off n : Nat) (d : Array α) (os : Array Obj) (hb : B ≤ blk) : Below B w0 (sortWorldK enc k w blk off n d os) := by
  refine h.trans ⟨rfl, rfl, rfl, ?_, ?_⟩
  · simp [sortWorldK, putRowK]
  · intro k' hk
    have hks : k' < w.heap.size := by omega
    simp only [sortWorldK, Sort.grow, putRowK, putRow, mapBlock, Sort.ahead]
    rw [Array.getElem?_append_left (by simpa using hks), Array.getElem?_modify, if_neg (by omega)]

/-- A row whose elements have been put in another order. -/
theorem Kind.own_sorted {α : Type} [Inhabited α] {K : Kind α} {n0 g n cap : Nat} {w : World} {d : List α} (h : K.Own n0 w (.slice (some ⟨g, 0, none⟩) n cap) d) (e : Array α) (he : e.size = d.length) (m : Nat) (os : Array Obj) :
    K.Own n0 (sortWorldK K.enc K.k w g 0 m e os) (.slice (some ⟨g, 0, none⟩) n cap) e.toList := by
  have hH := K.own_holds h
  rcases h.2 with ⟨hv, _⟩ | ⟨g', cap', cur, hv, h1, h2, h3, h4, h5, h6⟩
  · cases hv
  · injection hv with e1 e2 e3
    injection e1 with e1
    injection e1 with e1 _ _
    subst e1 e2 e3
    have hgl := (Array.getElem?_eq_some_iff.1 h2).1
    have hl : e.toList.length = d.length := by simpa using he
    have hheap : (sortWorldK K.enc K.k w g 0 m e os).heap[g]? = some (.cells (putCells id 0 (flatK K.enc K.k e) cur) K.T (0, 0)) := by
      simp only [sortWorldK, Sort.grow, putRowK, putRow, mapBlock, Sort.ahead]
      rw [Array.getElem?_append_left (by simpa using hgl), Array.getElem?_modify, if_pos rfl, h2]
      rfl
    have hH2 : HoldsK K.enc K.k (sortWorldK K.enc K.k w g 0 m e os) g 0 e := by
      exact holdsK_grow K.enc K.k _ os g 0 _ (by simpa [putRowK] using hgl) (holdsK_putRowK K.enc K.k (Sort.ahead w m) g 0 _ _ (holdsK_ahead K.enc K.k w m g 0 _ hH) (by simpa using he))
    have hsz : (putCells id 0 (flatK K.enc K.k e) cur).size = cur.size := by simp [putCells]
    refine ⟨by rw [K.cells_len], Or.inr ⟨g, cap, _, by rw [hl], h1, hheap, by rw [hl]; exact h3, h4, by rw [hsz]; exact h5, ?_⟩⟩
    apply List.ext_getElem?
    intro j
    rw [hl, List.getElem?_take]
    by_cases hj : j < d.length * K.k
    · have hje : j < e.size * K.k := by rw [he]; exact hj
      rw [if_pos hj, K.flat e.toList j (by rw [hl]; exact hj)]
      have := (hH2 j (by rw [size_flatK]; exact hje)).1
      rw [get_flatK _ _ _ _ (by first | exact hje | (rw [size_flatK]; exact hje))] at this
      simp only [World.cell?, hheap, Nat.zero_add] at this
      simp only [Option.isSome_none, Bool.false_eq_true, if_false] at this
      rw [Array.getElem?_toList, this]
      have hq : j / K.k < e.size := (Nat.div_lt_iff_lt_mul K.pos).2 hje
      have he2 : e.toList[j / K.k]! = e[j / K.k]! := by
        rw [getElem!_pos e (j / K.k) hq, getElem!_pos e.toList (j / K.k) (by simpa using hq)]; simp
      rw [he2]
      rfl
    · rw [if_neg hj, List.getElem?_eq_none]
      rw [K.cells_len, hl]
      omega

theorem Kind.own_ge {α : Type} {K : Kind α} {n0 g n cap : Nat} {w : World} {d : List α} (h : K.Own n0 w (.slice (some ⟨g, 0, none⟩) n cap) d) : n0 ≤ g ∧ g < w.heap.size ∧ d.length ≤ cap ∧ cap ≤ maxLen := by
  rcases h.2 with ⟨hv, _⟩ | ⟨g', cap', cur, hv, h1, h2, h3, h4, _⟩
  · cases hv
  · injection hv with e1 e2 e3
    injection e1 with e1
    injection e1 with e1 _ _
    subst e1 e3
    exact ⟨h1, (Array.getElem?_eq_some_iff.1 h2).1, h3, h4⟩

theorem Kind.own_drew {α : Type} {K : Kind α} {n0 : Nat} {w : World} {v : Value} {d : List α} (h : K.Own n0 w v d) (q : Nat) : K.Own n0 (w.drewN q) v d := h

theorem Kind.own_some {α : Type} [Inhabited α] {K : Kind α} {n0 g n cap : Nat} {w : World} {d : List α} (h : K.Own n0 w (.slice (some ⟨g, 0, none⟩) n cap) d) (t : Nat) (ht : t < d.length * K.k) :
    (w.cell? ⟨g, t, none⟩).isSome = true ∧ w.frozen? ⟨g, t, none⟩ = false := by
  have := K.own_holds h t (by rw [size_flatK]; simpa using ht)
  rw [Nat.zero_add] at this
  exact ⟨by rw [this.1]; rfl, this.2⟩

/-- An element's cells in a row of its own. -/
theorem Kind.own_at {α : Type} {K : Kind α} {n0 g n cap : Nat} {w : World} {d : List α} (h : K.Own n0 w (.slice (some ⟨g, 0, none⟩) n cap) d) : K.At w g 0 d := by
  by_cases h0 : 0 < d.length
  · obtain ⟨g', e, _, _, hat, _⟩ := Kind.own_form h h0
    cases e
    exact hat
  · intro i hi; omega

theorem Kind.own_free {α : Type} {K : Kind α} {n0 g n cap : Nat} {w : World} {d : List α} (h : K.Own n0 w (.slice (some ⟨g, 0, none⟩) n cap) d) (j : Nat) : w.frozen? ⟨g, j, none⟩ = false := by
  rcases h.2 with ⟨hv, _⟩ | ⟨g', cap', cur, hv, h1, h2, _⟩
  · cases hv
  · injection hv with e1 e2 e3
    injection e1 with e1
    injection e1 with e1 _ _
    subst e1
    exact Lib.frozen_of_heap h2 _

theorem Kind.newsN {α : Type} (K : Kind α) (W : World) (x : α) (N : Nat) (hN : N = W.heap.size) : ∀ j u, (K.cells [x])[j]? = some u → (W.alloc (.cells (K.enc x).toArray K.T)).cell? ((⟨N, 0, none⟩ : Addr).add j) = some u := by
  subst hN
  exact K.news W x

end Go.Proofs.Ytmihddbnddgfhaa

/-
  The contracts of Type, ID and Temp of package name.
-/
namespace Go.Proofs.Ytmihddbnddgfhaa
open Go.RowKit

end Go.Proofs.Ytmihddbnddgfhaa

/-
  The library's functions at this program's own numbers: the tables that tie each to the contract that the library proves once.
-/
namespace Go.Proofs
open Go.Shelf

end Go.Proofs

/-
  Where a byte first stands in a text, in plain lists.
-/
namespace Go.Proofs.Ytmihddbnddgfhaa

theorem ix_cases (l : List UInt8) (c : UInt8) :
    (Lib.indexByte l c = -1 ∧ c ∉ l) ∨ ∃ i : Nat, Lib.indexByte l c = (i : Int) ∧ i < l.length ∧ l[i]? = some c ∧ c ∉ l.take i := by
  induction l with
  | nil => left; exact ⟨rfl, by simp⟩
  | cons b l ih =>
    by_cases hb : b = c
    · right
      refine ⟨0, ?_, by simp, by simp [hb], by simp⟩
      unfold Lib.indexByte; simp [hb]
    · have hbc : (b == c) = false := by simp [hb]
      rcases ih with ⟨h1, h2⟩ | ⟨i, h1, h2, h3, h4⟩
      · left
        refine ⟨?_, ?_⟩
        · unfold Lib.indexByte; rw [hbc]; simp [h1]
        · simp only [List.mem_cons, not_or]; exact ⟨fun h => hb h.symm, h2⟩
      · right
        refine ⟨i + 1, ?_, by simp; omega, by simpa using h3, ?_⟩
        · unfold Lib.indexByte; rw [hbc, h1]
          have : ((i : Int) == -1) = false := by rw [beq_eq_false_iff_ne]; omega
          simp [this]
        · simp only [List.take_succ_cons, List.mem_cons, not_or]; exact ⟨fun h => hb h.symm, h4⟩

/-- The split of a text at its first byte c. -/
theorem ix_split (l : List UInt8) (c : UInt8) (i : Nat) (h1 : i < l.length) (h2 : l[i]? = some c) : l = l.take i ++ c :: l.drop (i + 1) := by
  have h3 : l[i] = c := by rw [List.getElem?_eq_getElem h1] at h2; exact Option.some.inj h2
  calc l = l.take i ++ l.drop i := (List.take_append_drop i l).symm
    _ = l.take i ++ c :: l.drop (i + 1) := by rw [List.drop_eq_getElem_cons h1, h3]

theorem ix_uniq {a b a' b' : List UInt8} {c : UInt8} (h : a ++ c :: b = a' ++ c :: b') (ha : c ∉ a) (ha' : c ∉ a') : a = a' ∧ b = b' := by
  induction a generalizing a' with
  | nil =>
    cases a' with
    | nil => simp at h; exact ⟨rfl, h⟩
    | cons x a' => simp at h; simp [h.1] at ha'
  | cons x a ih =>
    cases a' with
    | nil => simp at h; simp [h.1] at ha
    | cons y a' =>
      simp only [List.cons_append, List.cons.injEq] at h
      simp only [List.mem_cons, not_or] at ha ha'
      obtain ⟨e1, e2⟩ := ih h.2 ha.2 ha'.2
      exact ⟨by rw [h.1, e1], e2⟩

theorem ext_head (s : ByteArray) (i : Nat) : (s.extract 0 i).data.toList = s.data.toList.take i := by
  rw [Lib.extract_data]; simp

theorem ext_tail (s : ByteArray) (i : Nat) : (s.extract i s.size).data.toList = s.data.toList.drop i := Lib.extract_to_end s i

end Go.Proofs.Ytmihddbnddgfhaa

/-
  The contract of strings.Cut at a separator of one byte.
-/
namespace Go.Proofs.Ytmihddbnddgfhaa
open Go.RowKit



set_option maxHeartbeats 400000 in
theorem cutl_no (s : ByteArray) (c : UInt8) (w : World) (hix : Lib.indexByte s.data.toList c = -1) :
    Calls Try.prog 95 #[.string s, .string ⟨#[c]⟩] w fun e w' => e = .returned (.tuple #[.string s, .string ⟨#[]⟩, .bool false]) ∧ w' = w := by
  have HX : Hid (Lib.indexByte s.data.toList c = -1) := hix
  clear hix
  go_enter Try.func95, Try.ntmps95
  go_wp2_with (go_at_call 96; refine (Try.stringslite_Index_one _ _ _).mono ?_; rintro e w' ⟨rfl, rfl⟩; rw [HX.out])
  go_ret3
  exact ⟨rfl, rfl⟩

set_option maxHeartbeats 400000 in
theorem cutl_yes (s : ByteArray) (c : UInt8) (w : World) (i : Nat) (hix : Lib.indexByte s.data.toList c = (i : Int)) (hi : i < s.size) (hs : s.size ≤ maxLen) :
    Calls Try.prog 95 #[.string s, .string ⟨#[c]⟩] w fun e w' => e = .returned (.tuple #[.string (s.extract 0 i), .string (s.extract (i + 1) s.size), .bool true]) ∧ ∃ n, w' = w.drewN n := by
  have HX : Hid (Lib.indexByte s.data.toList c = (i : Int)) := hix
  clear hix
  unfold maxLen at hs
  have c1 : (0 : Int) ≤ ↑i := by omega
  have c2 : (↑i : Int) ≤ ↑s.size := by omega
  have c3 : (0 : Int) ≤ ↑i + 1 := by omega
  have c4 : (↑i + 1 : Int) ≤ ↑s.size := by omega
  go_enter Try.func95, Try.ntmps95
  go_wp2_with (go_at_call 96; refine (Try.stringslite_Index_one _ _ _).mono ?_; rintro e w' ⟨rfl, rfl⟩; rw [HX.out])
  go_quiet (fail)
  go_wp2_with fail
  go_ret3
  exact ⟨rfl, _, rfl⟩

set_option maxHeartbeats 400000 in
theorem cut_no (s : ByteArray) (c : UInt8) (w : World) (hix : Lib.indexByte s.data.toList c = -1) :
    Calls Try.prog 93 #[.string s, .string ⟨#[c]⟩] w fun e w' => e = .returned (.tuple #[.string s, .string ⟨#[]⟩, .bool false]) ∧ w' = w := by
  have HX : Hid (Lib.indexByte s.data.toList c = -1) := hix
  clear hix
  go_enter Try.func93, Try.ntmps93
  go_wp2_with (go_at_call 95; refine (cutl_no _ _ _ HX.out).mono ?_; rintro e w' ⟨rfl, rfl⟩)
  go_ret3
  exact ⟨rfl, rfl⟩

set_option maxHeartbeats 400000 in
theorem cut_yes (s : ByteArray) (c : UInt8) (w : World) (i : Nat) (hix : Lib.indexByte s.data.toList c = (i : Int)) (hi : i < s.size) (hs : s.size ≤ maxLen) :
    Calls Try.prog 93 #[.string s, .string ⟨#[c]⟩] w fun e w' => e = .returned (.tuple #[.string (s.extract 0 i), .string (s.extract (i + 1) s.size), .bool true]) ∧ ∃ n, w' = w.drewN n := by
  have HX : Hid (Lib.indexByte s.data.toList c = (i : Int)) := hix
  clear hix
  go_enter Try.func93, Try.ntmps93
  go_wp2_with (go_at_call 95; refine (cutl_yes _ _ _ i HX.out hi hs).mono ?_; rintro e w' ⟨rfl, n, rfl⟩)
  go_ret3
  exact ⟨rfl, n, rfl⟩

end Go.Proofs.Ytmihddbnddgfhaa

/-
  The contracts of Key, Print and Parse of package name.
-/
namespace Go.Proofs.Ytmihddbnddgfhaa
open Go.RowKit

def keyB (a b : ByteArray) : Bool := typeB a.data.toList && idenB b.data.toList

theorem bcell {W w1 : World} (hb : Below W.heap.size W w1) : (∀ b o, b < W.heap.size → w1.cell? ⟨b, o, none⟩ = W.cell? ⟨b, o, none⟩) ∧ (∀ b o, b < W.heap.size → w1.frozen? ⟨b, o, none⟩ = W.frozen? ⟨b, o, none⟩) :=
  ⟨fun b o h => hb.cell (p := ⟨b, o, none⟩) h, fun b o h => hb.frozen (p := ⟨b, o, none⟩) h⟩

theorem typeB_len {l : List UInt8} (h : typeB l = true) : l.length ≤ 32 := by
  cases l with
  | nil => simp
  | cons c r => simp [typeB, spell] at h; simp; omega
theorem idenB_len {l : List UInt8} (h : idenB l = true) : l.length ≤ 32 := by
  cases l with
  | nil => simp
  | cons c r => simp [idenB, spell] at h; simp; omega
theorem idenB_empty : idenB [] = false := rfl

theorem keyB_empty (a : ByteArray) : keyB a ⟨#[]⟩ = false := by
  unfold keyB
  rw [show (⟨#[]⟩ : ByteArray).data.toList = [] from rfl, idenB_empty, Bool.and_false]

theorem ext_size (s : ByteArray) (i j : Nat) (h : s.size ≤ maxLen) : (s.extract i j).size ≤ maxLen := by
  have : (s.extract i j).size ≤ s.size := by simp; omega
  omega

end Go.Proofs.Ytmihddbnddgfhaa

/-
  The contracts of cmp.Or and of Compare of package name.
-/
namespace Go.Proofs.Ytmihddbnddgfhaa.Z
open Go.RowKit

def orI (x y : Int) : Int := if x = 0 then y else x

attribute [local go_sem] Go.wp_at_zero Go.wp_at_succ

def cmpI (a b c d : ByteArray) : Int := orI (Lib.compareBytes a.data.toList c.data.toList) (Lib.compareBytes b.data.toList d.data.toList)

end Go.Proofs.Ytmihddbnddgfhaa.Z

/-
  What == and != say of two keys.
-/
namespace Go.Proofs.Ytmihddbnddgfhaa.Z
open Go.RowKit

def eqK (a b c d : ByteArray) : Bool := a.toList == c.toList && b.toList == d.toList

theorem eql_key (a b c d : ByteArray) (w : World) : (binOp .eql 67 (.agg #[.string a, .string b]) (.agg #[.string c, .string d])).run Try.prog w = .ok (.bool (eqK a b c d)) w := by
  have u9 := Try.underlying9
  have a9 := Try.isAgg9
  have z9 := Try.sizeOf9
  have hS : Try.prog.underlying 67 = some (.struct (Try.prog.fieldsOf 67)) := by kernel_rfl
  have hp : Try.prog.stoodInHeld 67 = false := by kernel_rfl
  rw [run_eql_struct, show (10000 : Nat) = 9999 + 1 from rfl, run_equalIn_agg w 9999 67 _ _ hS hp]
  simp only [Program.fieldsOf, Try.underlying67]
  go_simp
  unfold eqK
  by_cases h1 : a.toList = c.toList <;> by_cases h2 : b.toList = d.toList <;> simp [h1, h2]

theorem neq_key (a b c d : ByteArray) (w : World) : (binOp .neq 67 (.agg #[.string a, .string b]) (.agg #[.string c, .string d])).run Try.prog w = .ok (.bool (!eqK a b c d)) w := by
  have u9 := Try.underlying9
  have a9 := Try.isAgg9
  have z9 := Try.sizeOf9
  have hS : Try.prog.underlying 67 = some (.struct (Try.prog.fieldsOf 67)) := by kernel_rfl
  have hp : Try.prog.stoodInHeld 67 = false := by kernel_rfl
  rw [run_neq_struct, show (10000 : Nat) = 9999 + 1 from rfl, run_equalIn_agg w 9999 67 _ _ hS hp]
  simp only [Program.fieldsOf, Try.underlying67]
  go_simp
  unfold eqK
  by_cases h1 : a.toList = c.toList <;> by_cases h2 : b.toList = d.toList <;> simp [h1, h2]

end Go.Proofs.Ytmihddbnddgfhaa.Z

/-
  slices.Compact at two keys that are one.
-/
namespace Go.Proofs.Ytmihddbnddgfhaa.Z
open Go.RowKit

theorem zero_cells (e : Value) (n : Nat) : (Builtin.zeroCells #[e, e] n).toList = List.replicate (n * 2) e := by
  apply List.ext_getElem
  · simp [Builtin.zeroCells]
  · intro i h1 h2
    simp [Builtin.zeroCells]
    rcases Nat.mod_two_eq_zero_or_one i with h | h <;> simp [h]

theorem run_clear_key (w : World) (ty : TypeId) (b o n c : Nat) (hn : 0 < n)
    (hc : ∀ j, j < n * 2 → (w.cell? ⟨b, o + j, none⟩).isSome = true) (hf : ∀ j, j < n * 2 → w.frozen? ⟨b, o + j, none⟩ = false) :
    (Builtin.clear_ #[29] ty #[.slice (some ⟨b, o, none⟩) n c]).run Try.prog w = .ok (.tuple #[]) (w.setCells b o (List.replicate (n * 2) (.string ⟨#[]⟩))) := by
  have hst := run_storeCells_cells (P := Try.prog) b o (List.replicate (n * 2) (.string ⟨#[]⟩)) 0 w (by simpa using hc) (by simpa using hf) (by intro v hv'; rw [List.eq_of_mem_replicate hv']; rfl)
  simp only [Nat.add_zero] at hst
  have hz := zero_cells (.string ⟨#[]⟩) n
  obtain ⟨m, rfl⟩ : ∃ m, n = m + 1 := ⟨n - 1, by omega⟩
  simp [Builtin.clear_, run_underlying Try.underlying29, Try.zeroValue67, Value.cells, hz, hst]

theorem below_setCells {B : Nat} {w w' : World} (b : Nat) (hb : B ≤ b) : ∀ (vs : List Value) (o : Nat), Below B w w' → Below B w (w'.setCells b o vs)
  | [], _, h => h
  | v :: vs, o, h => by
    unfold World.setCells
    exact below_setCells (w' := w'.setCell ⟨b, o, none⟩ v) b hb vs (o + 1) (h.setCell hb v)

theorem eqK_self (a b : ByteArray) : eqK a b a b = true := by simp [eqK]

end Go.Proofs.Ytmihddbnddgfhaa.Z

/-
  The order of keys, in plain lists of bytes.
-/
namespace Go.Proofs.Ytmihddbnddgfhaa.Z

theorem cb_self (a : List UInt8) : Lib.compareBytes a a = 0 := by
  induction a with
  | nil => rfl
  | cons x a ih => unfold Lib.compareBytes; simp [ih]

theorem cb_zero (a b : List UInt8) : Lib.compareBytes a b = 0 ↔ a = b := by
  constructor
  · induction a generalizing b with
    | nil => cases b with
      | nil => intro _; rfl
      | cons y b => intro h; simp [Lib.compareBytes] at h
    | cons x a ih => cases b with
      | nil => intro h; simp [Lib.compareBytes] at h
      | cons y b =>
        intro h
        unfold Lib.compareBytes at h
        split at h
        · simp at h
        · split at h
          · simp at h
          · rename_i h1 h2
            have : x = y := by
              apply UInt8.toNat_inj.1
              rw [UInt8.lt_iff_toNat_lt] at h1 h2
              omega
            rw [this, ih b h]
  · rintro rfl; exact cb_self a

theorem cb_neg (a b : List UInt8) : Lib.compareBytes b a = - Lib.compareBytes a b := by
  induction a generalizing b with
  | nil => cases b <;> simp [Lib.compareBytes]
  | cons x a ih => cases b with
    | nil => simp [Lib.compareBytes]
    | cons y b =>
      unfold Lib.compareBytes
      by_cases h1 : x < y
      · have h2 : ¬ y < x := by rw [UInt8.lt_iff_toNat_lt] at h1 ⊢; omega
        simp [h1, h2]
      · by_cases h2 : y < x
        · simp [h1, h2]
        · simp [h1, h2, ih b]

theorem cb_range (a b : List UInt8) : Lib.compareBytes a b = -1 ∨ Lib.compareBytes a b = 0 ∨ Lib.compareBytes a b = 1 := by
  induction a generalizing b with
  | nil => cases b <;> simp [Lib.compareBytes]
  | cons x a ih => cases b with
    | nil => simp [Lib.compareBytes]
    | cons y b =>
      unfold Lib.compareBytes
      by_cases h1 : x < y
      · simp [h1]
      · by_cases h2 : y < x
        · simp [h1, h2]
        · simpa [h1, h2] using ih b

theorem cb_lt_trans (a b c : List UInt8) (h1 : Lib.compareBytes a b < 0) (h2 : Lib.compareBytes b c < 0) : Lib.compareBytes a c < 0 := by
  induction a generalizing b c with
  | nil => cases c with
    | nil => cases b <;> simp [Lib.compareBytes] at h1 h2
    | cons z c => simp [Lib.compareBytes]
  | cons x a ih => cases b with
    | nil => simp [Lib.compareBytes] at h1
    | cons y b => cases c with
      | nil => simp [Lib.compareBytes] at h2
      | cons z c =>
        unfold Lib.compareBytes at h1 h2 ⊢
        simp only [UInt8.lt_iff_toNat_lt] at h1 h2 ⊢
        by_cases p1 : x.toNat < y.toNat
        · by_cases q1 : y.toNat < z.toNat
          · rw [if_pos (by omega)]; decide
          · rw [if_neg q1] at h2
            by_cases q2 : z.toNat < y.toNat
            · rw [if_pos q2] at h2; simp at h2
            · rw [if_pos (by omega)]; decide
        · rw [if_neg p1] at h1
          by_cases p2 : y.toNat < x.toNat
          · rw [if_pos p2] at h1; simp at h1
          · rw [if_neg p2] at h1
            by_cases q1 : y.toNat < z.toNat
            · rw [if_pos (by omega)]; decide
            · rw [if_neg q1] at h2
              by_cases q2 : z.toNat < y.toNat
              · rw [if_pos q2] at h2; simp at h2
              · rw [if_neg q2] at h2
                rw [if_neg (by omega), if_neg (by omega)]
                exact ih b c h1 h2

theorem cb_less (a b : List UInt8) : decide (Lib.compareBytes a b < 0) = Op.bytesLess a b := by
  induction a generalizing b with
  | nil => cases b <;> simp [Lib.compareBytes, Op.bytesLess]
  | cons x a ih => cases b with
    | nil => simp [Lib.compareBytes, Op.bytesLess]
    | cons y b =>
      unfold Lib.compareBytes Op.bytesLess
      rw [← ih b]
      by_cases h1 : x < y
      · simp [h1]
      · by_cases h2 : y < x
        · have hne : (x == y) = false := by
            rw [beq_eq_false_iff_ne]; rintro rfl; exact h1 h2
          simp [h1, h2, hne]
        · have he : x = y := by
            apply UInt8.toNat_inj.1
            rw [UInt8.lt_iff_toNat_lt] at h1 h2
            omega
          simp [he]

/-- The order of pairs: by the first, then by the second. -/
def pairI (x y : Int) : Int := if x = 0 then y else x

def cmpL (a b c d : List UInt8) : Int := pairI (Lib.compareBytes a c) (Lib.compareBytes b d)

theorem cmpL_cases (a b c d : List UInt8) : (a = c ∧ cmpL a b c d = Lib.compareBytes b d) ∨ (a ≠ c ∧ Lib.compareBytes a c ≠ 0 ∧ cmpL a b c d = Lib.compareBytes a c) := by
  unfold cmpL pairI
  by_cases h : Lib.compareBytes a c = 0
  · left; exact ⟨(cb_zero a c).1 h, by rw [if_pos h]⟩
  · right; exact ⟨fun e => h ((cb_zero a c).2 e), h, by rw [if_neg h]⟩

theorem cmpL_neg (a b c d : List UInt8) : cmpL c d a b = - cmpL a b c d := by
  unfold cmpL pairI
  rw [cb_neg a c, cb_neg b d]
  by_cases h : Lib.compareBytes a c = 0
  · rw [if_pos h, if_pos (by omega)]
  · rw [if_neg h, if_neg (by omega)]

theorem cmpL_range (a b c d : List UInt8) : cmpL a b c d = -1 ∨ cmpL a b c d = 0 ∨ cmpL a b c d = 1 := by
  rcases cmpL_cases a b c d with ⟨_, h⟩ | ⟨_, _, h⟩ <;> rw [h] <;> exact cb_range _ _

theorem cmpL_zero (a b c d : List UInt8) : cmpL a b c d = 0 ↔ a = c ∧ b = d := by
  rcases cmpL_cases a b c d with ⟨h1, h⟩ | ⟨h1, h2, h⟩
  · rw [h, cb_zero]; exact ⟨fun e => ⟨h1, e⟩, fun e => e.2⟩
  · rw [h]; exact ⟨fun e => absurd e h2, fun e => absurd e.1 h1⟩

theorem cmpL_lt_trans (a b c d e f : List UInt8) (h1 : cmpL a b c d < 0) (h2 : cmpL c d e f < 0) : cmpL a b e f < 0 := by
  rcases cmpL_cases a b c d with ⟨p1, p⟩ | ⟨p1, _, p⟩ <;> rcases cmpL_cases c d e f with ⟨q1, q⟩ | ⟨q1, _, q⟩ <;> rcases cmpL_cases a b e f with ⟨r1, r⟩ | ⟨r1, _, r⟩ <;> rw [p] at h1 <;> rw [q] at h2 <;> rw [r]
  · exact cb_lt_trans _ _ _ h1 h2
  · exact absurd (p1.trans q1) r1
  · exact absurd (p1.symm.trans r1) q1
  · rw [p1]; exact h2
  · exact absurd (r1.trans q1.symm) p1
  · rw [← q1]; exact h1
  · have := cb_lt_trans _ _ _ h1 h2; rw [r1, cb_self] at this; omega
  · exact cb_lt_trans _ _ _ h1 h2

theorem cmpL_le_trans (a b c d e f : List UInt8) (h1 : cmpL a b c d ≤ 0) (h2 : cmpL c d e f ≤ 0) : cmpL a b e f ≤ 0 := by
  by_cases p : cmpL a b c d = 0
  · obtain ⟨rfl, rfl⟩ := (cmpL_zero _ _ _ _).1 p; exact h2
  · by_cases q : cmpL c d e f = 0
    · obtain ⟨rfl, rfl⟩ := (cmpL_zero _ _ _ _).1 q; exact h1
    · have := cmpL_lt_trans a b c d e f (by omega) (by omega); omega

/-- What the document says: by the type, then by the id, each by bytes. -/
theorem cmpL_less (a b c d : List UInt8) : decide (cmpL a b c d < 0) = (Op.bytesLess a c || (a == c && Op.bytesLess b d)) := by
  rw [← cb_less, ← cb_less]
  rcases cmpL_cases a b c d with ⟨h1, h⟩ | ⟨h1, h2, h⟩
  · subst h1; rw [h, cb_self]; simp
  · have hne : (a == c) = false := beq_eq_false_iff_ne.2 h1
    rw [h, hne]; simp

end Go.Proofs.Ytmihddbnddgfhaa.Z

/-
  Sort of package name at two keys that are one.
-/
namespace Go.Proofs.Ytmihddbnddgfhaa.Z
open Go.RowKit Go.Sort Go.Lib

def encKey (x : ByteArray × ByteArray) : List Value := [.string x.1, .string x.2]
def cmpK (x y : ByteArray × ByteArray) : Int := cmpI x.1 x.2 y.1 y.2

theorem cmpI_eq (a b c d : ByteArray) : cmpI a b c d = cmpL a.data.toList b.data.toList c.data.toList d.data.toList := rfl

theorem ltK (x y : ByteArray × ByteArray) : ltOf cmpK x y = decide (cmpL x.1.data.toList x.2.data.toList y.1.data.toList y.2.data.toList < 0) := rfl

theorem swoK : SWO (ltOf cmpK) where
  irrefl x := by rw [ltK, (cmpL_zero _ _ _ _).2 ⟨rfl, rfl⟩]; rfl
  trans x y z h1 h2 := by
    rw [ltK, decide_eq_true_iff] at *
    exact cmpL_lt_trans _ _ _ _ _ _ h1 h2
  ntrans x y z h1 h2 := by
    rw [ltK, decide_eq_false_iff_not] at *
    intro h
    have n1 := cmpL_neg x.1.data.toList x.2.data.toList y.1.data.toList y.2.data.toList
    have n2 := cmpL_neg y.1.data.toList y.2.data.toList z.1.data.toList z.2.data.toList
    have n3 := cmpL_neg x.1.data.toList x.2.data.toList z.1.data.toList z.2.data.toList
    have := cmpL_le_trans z.1.data.toList z.2.data.toList y.1.data.toList y.2.data.toList x.1.data.toList x.2.data.toList (by omega) (by omega)
    omega

theorem three_new (W : World) (o1 o2 o3 : Obj) : (((W.alloc o1).alloc o2).alloc o3).drew = grow (W.drewN 1) #[o1, o2, o3] := by
  rw [alloc_eq_grow, alloc_eq_grow, alloc_eq_grow, grow_grow, grow_grow]; rfl

theorem zclone_any (b off n c : Nat) (news : List Value) (w : World) (hl : news.length = n * 2) (hn : n ≤ maxLen) (hbig : n * 32 ≤ 140737488355328)
    (hc : ∀ j u, news[j]? = some u → w.cell? ⟨b, off + j, none⟩ = some u) (h1 : ∀ u ∈ news, u.oneCell' = true) :
    Calls Try.prog 46 #[.slice (some ⟨b, off, none⟩) n c] w fun e w' => ∃ v', e = .returned v' ∧ w'.ownsRow w.heap.size 67 2 v' n news ∧ v' ≠ .slice none 0 0 ∧ Below w.heap.size w w' := by
  have hs : (Try.prog.info? 67).isSome = true := by kernel_rfl
  have hi : ∃ i0, Try.prog.info? 67 = some i0 ∧ i0.zero = some (.agg #[.string ⟨#[]⟩, .string ⟨#[]⟩]) ∧ i0.size = 2 ∧ i0.bytes = 32 :=
    ⟨(Try.prog.info? 67).get hs, (Option.some_get hs).symm, by kernel_rfl, by kernel_rfl, by kernel_rfl⟩
  obtain ⟨i0, e1, e2, e3, e4⟩ := hi
  exact AnyE.slices_Clone Try.cloneKey i0 _ 2 32 e1 e2 e3 e4 rfl (by omega) Try.sizeOf67 b off n c news w hl hn hbig hc h1

/-- The cells of a row of keys. -/
def cellsK (d : Array (ByteArray × ByteArray)) : List Value := d.toList.flatMap encKey

theorem below_sortWorld {B : Nat} {w0 w : World} (h : Below B w0 w) (hB : B ≤ w.heap.size) (blk off n : Nat) (d : Array (ByteArray × ByteArray)) (os : Array Obj) (hb : B ≤ blk) : Below B w0 (sortWorldK encKey 2 w blk off n d os) := by
  refine h.trans ⟨rfl, rfl, rfl, ?_, ?_⟩
  · simp [sortWorldK, putRowK]
  · intro k hk
    have hks : k < w.heap.size := by omega
    simp only [sortWorldK, grow, putRowK, putRow, mapBlock, Sort.ahead]
    rw [Array.getElem?_append_left (by simpa using hks), Array.getElem?_modify, if_neg (by omega)]

theorem flat_get (l : List (ByteArray × ByteArray)) (t : Nat) (h : t < l.length * 2) : (l.flatMap encKey)[t]? = some (encKey (l[t / 2]!))[t % 2]! := by
  induction l generalizing t with
  | nil => simp at h
  | cons x l ih =>
    rw [List.flatMap_cons]
    by_cases h2 : t < 2
    · rcases (show t = 0 ∨ t = 1 by omega) with rfl | rfl <;> simp [encKey]
    · obtain ⟨u, rfl⟩ : ∃ u, t = u + 2 := ⟨t - 2, by omega⟩
      have hl : (encKey x).length = 2 := rfl
      rw [List.getElem?_append_right (by omega), hl, show u + 2 - 2 = u by omega, ih u (by simp at h; omega), show (u + 2) / 2 = u / 2 + 1 by omega, show (u + 2) % 2 = u % 2 by omega]
      simp

theorem holds_of_heap {w : World} {g : Nat} {cur : Array Value} {e : TypeId} (d : Array (ByteArray × ByteArray)) (hheap : w.heap[g]? = some (.cells cur e (0, 0))) (htake : cur.toList.take (d.size * 2) = cellsK d) : HoldsK encKey 2 w g 0 d := by
  intro j hj
  rw [size_flatK] at hj
  have hg := flat_get d.toList j (by simpa using hj)
  have h1 : (cur.toList.take (d.size * 2))[j]? = some (encKey (d.toList[j / 2]!))[j % 2]! := by rw [htake]; exact hg
  rw [List.getElem?_take_of_lt hj] at h1
  rw [get_flatK _ _ _ _ hj]
  constructor
  · simp only [World.cell?, hheap, Nat.zero_add]
    have he : d.toList[j / 2]! = d[j / 2]! := by
      rw [getElem!_pos d (j / 2) (by omega), getElem!_pos d.toList (j / 2) (by simp; omega)]; simp
    rw [← Array.getElem?_toList, h1, he]
    rfl
  · simp [World.frozen?, hheap]

end Go.Proofs.Ytmihddbnddgfhaa.Z

/-
  Rows of keys in memory: their cells, and what a slice of keys holds.
-/
namespace Go.Proofs.Ytmihddbnddgfhaa.Z
open Go.RowKit

def cellsL (d : List (ByteArray × ByteArray)) : List Value := d.flatMap encKey

theorem cellsL_cons (x : ByteArray × ByteArray) (d : List (ByteArray × ByteArray)) : cellsL (x :: d) = .string x.1 :: .string x.2 :: cellsL d := rfl
theorem cellsL_append (d e : List (ByteArray × ByteArray)) : cellsL (d ++ e) = cellsL d ++ cellsL e := List.flatMap_append
theorem cellsL_length (d : List (ByteArray × ByteArray)) : (cellsL d).length = d.length * 2 := by
  induction d with
  | nil => rfl
  | cons x d ih => rw [cellsL_cons]; simp [ih]; omega
theorem cellsL_one (d : List (ByteArray × ByteArray)) : ∀ u ∈ cellsL d, u.oneCell' = true := by
  intro u hu
  obtain ⟨x, _, hx⟩ := List.mem_flatMap.1 hu
  simp [encKey] at hx
  rcases hx with rfl | rfl <;> rfl
theorem cellsL_get (d : List (ByteArray × ByteArray)) (i : Nat) (h : i < d.length) : (cellsL d)[i * 2]? = some (.string d[i].1) ∧ (cellsL d)[i * 2 + 1]? = some (.string d[i].2) := by
  induction d generalizing i with
  | nil => simp at h
  | cons x d ih =>
    rw [cellsL_cons]
    cases i with
    | zero => simp
    | succ i =>
      have := ih i (by simpa using h)
      rw [show (i + 1) * 2 = i * 2 + 1 + 1 by omega]
      simpa using this
theorem cellsL_set (d : List (ByteArray × ByteArray)) (i : Nat) (a b : ByteArray) (h : i < d.length) : ((cellsL d).set (i * 2) (.string a)).set (i * 2 + 1) (.string b) = cellsL (d.set i (a, b)) := by
  induction d generalizing i with
  | nil => simp at h
  | cons x d ih =>
    rw [cellsL_cons]
    cases i with
    | zero => simp [cellsL_cons]
    | succ i =>
      rw [show (i + 1) * 2 = i * 2 + 1 + 1 by omega]
      simp only [List.set_cons_succ, cellsL_cons]
      rw [ih i (by simpa using h)]
theorem cellsL_take (d : List (ByteArray × ByteArray)) (k : Nat) : (cellsL d).take (k * 2) = cellsL (d.take k) := by
  induction d generalizing k with
  | nil => simp [cellsL]
  | cons x d ih =>
    cases k with
    | zero => simp [cellsL]
    | succ k => rw [show (k + 1) * 2 = k * 2 + 1 + 1 by omega, cellsL_cons]; simp [ih, cellsL_cons]

/-- The keys d lie from off on in block b. -/
def KeysAt (w : World) (b off : Nat) (d : List (ByteArray × ByteArray)) : Prop :=
  ∀ i, (h : i < d.length) → w.cell? ⟨b, off + i * 2, none⟩ = some (.string d[i].1) ∧ w.cell? ⟨b, off + i * 2 + 1, none⟩ = some (.string d[i].2)

/-- v is a slice that holds the keys d. -/
def IsKeys (w : World) (v : Value) (d : List (ByteArray × ByteArray)) : Prop :=
  ∃ p cap, v = .slice p d.length cap ∧ (d = [] ∨ ∃ b off, p = some ⟨b, off, none⟩ ∧ KeysAt w b off d)

theorem KeysAt.kept {W w' : World} {b off : Nat} {d : List (ByteArray × ByteArray)} (h : KeysAt W b off d) (hq : Below W.heap.size W w') : KeysAt w' b off d := by
  intro i hi
  have hc := bcell hq
  obtain ⟨h1, h2⟩ := h i hi
  have lt : b < W.heap.size := by
    rcases Nat.lt_or_ge b W.heap.size with h' | h'
    · exact h'
    · simp [World.cell?, Array.getElem?_eq_none h'] at h1
  exact ⟨by rw [hc.1 _ _ lt]; exact h1, by rw [hc.1 _ _ lt]; exact h2⟩
theorem IsKeys.kept {W w' : World} {v : Value} {d : List (ByteArray × ByteArray)} (h : IsKeys W v d) (hq : Below W.heap.size W w') : IsKeys w' v d := by
  obtain ⟨p, cap, rfl, h | ⟨b, off, rfl, h⟩⟩ := h
  · exact ⟨p, cap, rfl, .inl h⟩
  · exact ⟨_, cap, rfl, .inr ⟨b, off, rfl, h.kept hq⟩⟩

/-- v is a slice of the call's own that holds the keys d. -/
def Own (w : World) (base : Nat) (v : Value) (d : List (ByteArray × ByteArray)) : Prop := w.ownsRow base 67 2 v d.length (cellsL d)

theorem Own.keysAt {w : World} {base g n cap : Nat} {d : List (ByteArray × ByteArray)} (h : Own w base (.slice (some ⟨g, 0, none⟩) n cap) d) : n = d.length ∧ KeysAt w g 0 d := by
  have hn : n = d.length := by
    rcases h.2 with ⟨h', _⟩ | ⟨_, _, _, h', _⟩
    · simp at h'
    · simp only [Value.slice.injEq] at h'; exact h'.2.1
  subst hn
  refine ⟨rfl, fun i hi => ?_⟩
  have e := cellsL_get d i hi
  rw [Nat.zero_add, World.ownsRow.cellAt h (i * 2) (by omega), World.ownsRow.cellAt h (i * 2 + 1) (by omega)]
  exact e
theorem Own.is {w : World} {base : Nat} {v : Value} {d : List (ByteArray × ByteArray)} (h : Own w base v d) : IsKeys w v d := by
  rcases h.2 with ⟨rfl, h0⟩ | ⟨g, cap, cur, rfl, _⟩
  · exact ⟨none, 0, by rw [h0], .inl (List.eq_nil_of_length_eq_zero h0)⟩
  · exact ⟨_, cap, rfl, .inr ⟨g, 0, rfl, h.keysAt.2⟩⟩

end Go.Proofs.Ytmihddbnddgfhaa.Z

/-
  The contract of SameKeys.
-/
namespace Go.Proofs.Ytmihddbnddgfhaa.Z
open Go.RowKit

theorem eqK_iff (x y : ByteArray × ByteArray) : eqK x.1 x.2 y.1 y.2 = decide (x = y) := by
  unfold eqK
  rw [Lib.toList_data, Lib.toList_data, Lib.toList_data, Lib.toList_data, Bool.eq_iff_iff, decide_eq_true_iff]
  obtain ⟨⟨⟨a⟩⟩, ⟨⟨b⟩⟩⟩ := x
  obtain ⟨⟨⟨c⟩⟩, ⟨⟨d⟩⟩⟩ := y
  simp

set_option maxHeartbeats 1000000 in
theorem zsame_any (v1 v2 : Value) (d1 d2 : List (ByteArray × ByteArray)) (w : World) (h1 : IsKeys w v1 d1) (h2 : IsKeys w v2 d2) (hl1 : d1.length ≤ maxLen) (hl2 : d2.length ≤ maxLen) :
    Calls Try.prog 43 #[v1, v2] w fun e w' => e = .returned (.bool (decide (d1 = d2))) ∧ ∃ n, w' = w.drewN n := by
  unfold maxLen at hl1 hl2
  obtain ⟨p1, c1, rfl, k1⟩ := h1
  obtain ⟨p2, c2, rfl, k2⟩ := h2
  by_cases hl : d1.length = d2.length
  · have hb : ((d1.length : Int) != (d2.length : Int)) = false := by simp [hl]
    rcases k1 with rfl | ⟨b1, o1, rfl, k1⟩
    · have hd : d2 = [] := by
        cases d2 with
        | nil => rfl
        | cons _ _ => simp at hl
      subst hd
      go_enter Try.func43, Try.ntmps43
      go_wp2
      refine wp_loop_rounds 1 ?_
      rw [rounds_succ]
      go_wp2
      go_ret
      exact ⟨rfl, 0, rfl⟩
    · rcases k2 with rfl | ⟨b2, o2, rfl, k2⟩
      · have hd : d1 = [] := by
          cases d1 with
          | nil => rfl
          | cons _ _ => simp at hl
        subst hd
        go_enter Try.func43, Try.ntmps43
        go_wp2
        refine wp_loop_rounds 1 ?_
        rw [rounds_succ]
        go_wp2
        go_ret
        exact ⟨rfl, 0, rfl⟩
      · have HL := hid hl
        have K1 := hid k1
        have K2 := hid k2
        clear hl k1 k2
        go_enter Try.func43, Try.ntmps43
        go_wp2
        go_loopw [5] (fun i wr => ∃ k q : Nat, k ≤ d1.length ∧ i = .int .i64 k ∧ wr = w.drewN q ∧ ∀ j, (hj : j < k) → d1[j]? = d2[j]?) (fun i _ => d1.length - (intOf i).toNat)
        case atStart => exact ⟨0, 0, by omega, rfl, rfl, fun j hj => by omega⟩
        case round =>
          obtain ⟨k, q, hk, rfl, rfl, hall⟩ := hrel
          have HA := hid hall
          clear hall
          by_cases hlt : k < d1.length
          · have hlt2 : k < d2.length := by rw [← HL.out]; exact hlt
            obtain ⟨e1, e2⟩ := K1.out k hlt
            obtain ⟨f1, f2⟩ := K2.out k hlt2
            have hne := fun W => neq_key d1[k].1 d1[k].2 d2[k].1 d2[k].2 W
            rw [eqK_iff] at hne
            have HG : Hid (d1[k]? = some d1[k] ∧ d2[k]? = some d2[k]) := ⟨List.getElem?_eq_getElem hlt, List.getElem?_eq_getElem hlt2⟩
            generalize d1[k] = x at *
            generalize d2[k] = y at *
            obtain ⟨x1, x2⟩ := x
            obtain ⟨y1, y2⟩ := y
            have i1 : (0 : Int) ≤ ↑k := by omega
            have i2 : (↑k : Int) < ↑d1.length := by omega
            have i3 : (↑k : Int) < ↑d2.length := by omega
            by_cases hxy : (x1, x2) = (y1, y2)
            · have hd : decide ((x1, x2) = (y1, y2)) = true := by simp [hxy]
              rw [hd] at hne
              have HX := hid hxy
              clear hxy hd
              go_wp2_with fail
              go_quiet (fail)
              go_wp2_with fail
              refine ⟨⟨k + 1, _, by omega, by go_num, rfl, fun j hj => ?_⟩, by simp [intOf]; omega⟩
              by_cases hjk : j = k
              · subst hjk; rw [HG.out.1, HG.out.2, HX.out]
              · exact HA.out j (by omega)
            · have hd : decide ((x1, x2) = (y1, y2)) = false := by simpa using hxy
              rw [hd] at hne
              have HX := hid hxy
              clear hxy hd
              go_wp2_with fail
              go_quiet (fail)
              go_wp2_with fail
              go_ret
              refine ⟨ret_bool ?_, q + nq, by simp⟩
              symm
              rw [decide_eq_false_iff_not]
              intro he
              apply HX.out
              have := HG.out.1
              rw [he, HG.out.2] at this
              exact (Option.some.inj this).symm
          · go_wp2
            go_ret
            refine ⟨ret_bool ?_, _, rfl⟩
            symm
            rw [decide_eq_true_iff]
            apply List.ext_getElem?
            intro j
            by_cases hj : j < k
            · exact HA.out j hj
            · have := HL.out
              rw [List.getElem?_eq_none (by omega), List.getElem?_eq_none (by omega)]
  · have hb : ((d1.length : Int) != (d2.length : Int)) = true := by rw [bne_iff_ne]; omega
    have hd : decide (d1 = d2) = false := by
      rw [decide_eq_false_iff_not]; rintro rfl; exact hl rfl
    have HD := hid hd
    clear hl k1 k2 hd
    go_enter Try.func43, Try.ntmps43
    go_wp2
    go_ret
    exact ⟨ret_bool HD.out.symm, 0, rfl⟩

end Go.Proofs.Ytmihddbnddgfhaa.Z

/-
  slices.Compact at keys, whatever their number.
-/
namespace Go.Proofs.Ytmihddbnddgfhaa.Z
open Go.RowKit Go.Lib

theorem toArray_get! (d : List (ByteArray × ByteArray)) (i : Nat) (h : i < d.length) : d.toArray[i]! = d[i] := by
  rw [getElem!_pos d.toArray i (by simpa using h)]; simp

theorem zown_at {w : World} {base g n cap : Nat} {dk : Array (ByteArray × ByteArray)} (h : Own w base (.slice (some ⟨g, 0, none⟩) n cap) dk.toList) (i : Nat) (hi : i < dk.size) :
    w.cell? ⟨g, i * 2, none⟩ = some (.string dk[i]!.1) ∧ w.cell? ⟨g, i * 2 + 1, none⟩ = some (.string dk[i]!.2) ∧ w.frozen? ⟨g, i * 2, none⟩ = false ∧ w.frozen? ⟨g, i * 2 + 1, none⟩ = false := by
  obtain ⟨rfl, hk⟩ := h.keysAt
  have := hk i (by simpa using hi)
  rw [Nat.zero_add] at this
  have e : dk.toList[i]'(by simpa using hi) = dk[i]! := by rw [getElem!_pos dk i hi]; simp
  rw [e] at this
  exact ⟨this.1, this.2, World.ownsRow.frozenAt h _, World.ownsRow.frozenAt h _⟩

theorem zown_frozen {w : World} {base g n cap : Nat} {d : List (ByteArray × ByteArray)} (h : Own w base (.slice (some ⟨g, 0, none⟩) n cap) d) (j : Nat) : w.frozen? ⟨g, j, none⟩ = false := by
  obtain ⟨rfl, _⟩ := h.keysAt
  exact World.ownsRow.frozenAt h j
theorem zown_some {w : World} {base g n cap : Nat} {d : List (ByteArray × ByteArray)} (h : Own w base (.slice (some ⟨g, 0, none⟩) n cap) d) (j : Nat) (hj : j < d.length * 2) : (w.cell? ⟨g, j, none⟩).isSome = true := by
  obtain ⟨rfl, _⟩ := h.keysAt
  rw [World.ownsRow.cellAt h j hj, List.getElem?_eq_getElem (by rw [cellsL_length]; exact hj)]
  rfl

theorem zown_store {w : World} {base g n cap : Nat} {dk : Array (ByteArray × ByteArray)} (h : Own w base (.slice (some ⟨g, 0, none⟩) n cap) dk.toList) (i : Nat) (hi : i < dk.size) (a b : ByteArray) :
    Own ((w.setCell ⟨g, i * 2, none⟩ (.string a)).setCell ⟨g, i * 2 + 1, none⟩ (.string b)) base (.slice (some ⟨g, 0, none⟩) n cap) (dk.setIfInBounds i (a, b)).toList := by
  obtain ⟨rfl, _⟩ := h.keysAt
  have h1 := (World.ownsRow.stored h (i * 2) (.string a)).1
  have h2 := (World.ownsRow.stored h1 (i * 2 + 1) (.string b)).1
  rw [cellsL_set _ _ _ _ (by simpa using hi)] at h2
  unfold Own
  simpa using h2

theorem zown_cut {w : World} {base g n cap : Nat} {xs : List Value} (h : w.ownsRow base 67 2 (.slice (some ⟨g, 0, none⟩) n cap) n xs) (k : Nat) (hk : k ≤ n) :
    w.ownsRow base 67 2 (.slice (some ⟨g, 0, none⟩) k cap) k (xs.take (k * 2)) := by
  obtain ⟨hl, h' | ⟨g', cap', cur, h', hb, hg, hnc, hcm, hcs, ht⟩⟩ := h
  · simp at h'
  · simp only [Value.slice.injEq, Option.some.injEq, Addr.mk.injEq, and_true, true_and] at h'
    obtain ⟨rfl, rfl⟩ := h'
    refine ⟨by rw [List.length_take, hl]; omega, .inr ⟨g, cap, cur, rfl, hb, hg, by omega, hcm, hcs, ?_⟩⟩
    rw [← ht, List.take_take, Nat.min_eq_left (by omega)]

theorem zown_setCells {base g k cap : Nat} {xs : List Value} : ∀ (vs : List Value) (o : Nat) (w : World), k * 2 ≤ o → w.ownsRow base 67 2 (.slice (some ⟨g, 0, none⟩) k cap) k xs →
    (w.setCells g o vs).ownsRow base 67 2 (.slice (some ⟨g, 0, none⟩) k cap) k xs
  | [], _, _, _, h => h
  | v :: vs, o, w, ho, h => by
    unfold World.setCells
    refine zown_setCells vs (o + 1) _ (by omega) ?_
    have := (World.ownsRow.stored h o v).1
    rwa [List.set_eq_of_length_le (by rw [h.1]; omega)] at this

theorem comp_done {d : List (ByteArray × ByteArray)} {kk : Nat} {dk : Array (ByteArray × ByteArray)} (hI : CompInv d.toArray d.length kk dk) : compact d = dk.toList.take kk := by
  have hs : dk.size = d.length := by simpa using hI.size
  have hlt := hI.lt
  unfold compact
  apply List.ext_getElem?
  intro j
  by_cases hj : j < kk
  · rw [hI.low j hj, List.getElem?_take_of_lt hj, List.getElem?_eq_getElem (by simp; omega), getElem!_pos dk j (by omega)]
    simp
  · rw [List.getElem?_eq_none (by rw [hI.len]; omega), List.getElem?_eq_none (by rw [List.length_take]; omega)]

end Go.Proofs.Ytmihddbnddgfhaa.Z

/-
  Lists of keys that rise: one for each set of keys.
-/
namespace Go.Proofs.Ytmihddbnddgfhaa.Z
open Go.Lib Go.Sort

/-- x stands ahead of y. -/
def ahead (x y : ByteArray × ByteArray) : Prop := cmpK x y < 0

theorem ahead_iff (x y : ByteArray × ByteArray) : ltOf cmpK x y = true ↔ ahead x y := by
  unfold ltOf ahead; rw [decide_eq_true_iff]
theorem ahead_irrefl (x : ByteArray × ByteArray) : ¬ ahead x x := by
  unfold ahead cmpK; rw [cmpI_eq, (cmpL_zero _ _ _ _).2 ⟨rfl, rfl⟩]; omega
theorem ahead_trans {x y z : ByteArray × ByteArray} (h1 : ahead x y) (h2 : ahead y z) : ahead x z := cmpL_lt_trans _ _ _ _ _ _ h1 h2
theorem ahead_total (x y : ByteArray × ByteArray) : ahead x y ∨ x = y ∨ ahead y x := by
  have hn : cmpK y x = - cmpK x y := cmpL_neg _ _ _ _
  have hr : cmpK x y = -1 ∨ cmpK x y = 0 ∨ cmpK x y = 1 := cmpL_range _ _ _ _
  rcases hr with h | h | h
  · left; unfold ahead; omega
  · right; left
    obtain ⟨h1, h2⟩ := (cmpL_zero _ _ _ _).1 h
    obtain ⟨⟨⟨a⟩⟩, ⟨⟨b⟩⟩⟩ := x
    obtain ⟨⟨⟨c⟩⟩, ⟨⟨d⟩⟩⟩ := y
    simp at h1 h2
    rw [h1, h2]
  · right; right; unfold ahead; omega

def Rises (r : List (ByteArray × ByteArray)) : Prop := r.Pairwise ahead

theorem rises_uniq {r s : List (ByteArray × ByteArray)} (hr : Rises r) (hs : Rises s) (h : ∀ x, x ∈ r ↔ x ∈ s) : r = s := by
  induction r generalizing s with
  | nil =>
    cases s with
    | nil => rfl
    | cons y s => exact absurd ((h y).2 (List.mem_cons_self ..)) (by simp)
  | cons x r ih =>
    cases s with
    | nil => exact absurd ((h x).1 (List.mem_cons_self ..)) (by simp)
    | cons y s =>
      obtain ⟨hx, hr'⟩ := List.pairwise_cons.1 hr
      obtain ⟨hy, hs'⟩ := List.pairwise_cons.1 hs
      have hxy : x = y := by
        rcases List.mem_cons.1 ((h x).1 (List.mem_cons_self ..)) with e | e
        · exact e
        · rcases List.mem_cons.1 ((h y).2 (List.mem_cons_self ..)) with e' | e'
          · exact e'.symm
          · exact absurd (ahead_trans (hx y e') (hy x e)) (ahead_irrefl x)
      subst hxy
      rw [ih hr' hs' fun z => ?_]
      constructor
      · intro hz
        rcases List.mem_cons.1 ((h z).1 (List.mem_cons_of_mem _ hz)) with e | e
        · exact absurd (hx z hz) (by rw [e]; exact ahead_irrefl _)
        · exact e
      · intro hz
        rcases List.mem_cons.1 ((h z).2 (List.mem_cons_of_mem _ hz)) with e | e
        · exact absurd (hy z hz) (by rw [e]; exact ahead_irrefl _)
        · exact e

theorem compact_rises (d : Array (ByteArray × ByteArray)) (n : Nat) (hs : SortedIn (ltOf cmpK) 0 n d) : ∀ m, m ≤ n →
    Rises (compactUpTo d m) ∧ (∀ x, x ∈ compactUpTo d m → ∃ j, j < m ∧ x = d[j]!) ∧ (∀ j, j < m → d[j]! ∈ compactUpTo d m) := by
  intro m
  induction m with
  | zero => intro _; exact ⟨List.Pairwise.nil, fun x hx => by simp [compactUpTo] at hx, fun j hj => by omega⟩
  | succ m ih =>
    intro hm
    obtain ⟨h1, h2, h3⟩ := ih (by omega)
    rw [compactUpTo_succ]
    have notlt : ∀ i, i < m → ahead d[i]! d[m]! ∨ d[i]! = d[m]! := by
      intro i hi
      have := hs i m (Nat.zero_le _) hi (by omega)
      rcases ahead_total d[i]! d[m]! with h | h | h
      · exact .inl h
      · exact .inr h
      · rw [(ahead_iff _ _).2 h] at this; cases this
    by_cases hk : keeps d m = true
    · rw [if_pos hk]
      refine ⟨?_, ?_, ?_⟩
      · refine List.pairwise_append.2 ⟨h1, List.pairwise_singleton _ _, fun x hx y hy => ?_⟩
        rw [List.mem_singleton] at hy
        subst hy
        obtain ⟨j, hj, rfl⟩ := h2 x hx
        have hne : d[m]! ≠ d[m - 1]! := by
          have : m = 0 ∨ d[m]! ≠ d[m - 1]! := by simpa [keeps] using hk
          rcases this with h | h
          · omega
          · exact h
        have hlast : ahead d[m - 1]! d[m]! := by
          rcases notlt (m - 1) (by omega) with h | h
          · exact h
          · exact absurd h.symm hne
        by_cases hjm : j = m - 1
        · rw [hjm]; exact hlast
        · have := hs j (m - 1) (Nat.zero_le _) (by omega) (by omega)
          rcases ahead_total d[j]! d[m - 1]! with h | h | h
          · exact ahead_trans h hlast
          · rw [h]; exact hlast
          · rw [(ahead_iff _ _).2 h] at this; cases this
      · intro x hx
        rcases List.mem_append.1 hx with h | h
        · obtain ⟨j, hj, e⟩ := h2 x h
          exact ⟨j, by omega, e⟩
        · exact ⟨m, by omega, List.mem_singleton.1 h⟩
      · intro j hj
        by_cases hjm : j = m
        · subst hjm; exact List.mem_append_right _ (List.mem_singleton.2 rfl)
        · exact List.mem_append_left _ (h3 j (by omega))
    · have hk' : keeps d m = false := by simpa using hk
      rw [if_neg hk, List.append_nil]
      refine ⟨h1, fun x hx => ?_, fun j hj => ?_⟩
      · obtain ⟨j, hj, e⟩ := h2 x hx
        exact ⟨j, by omega, e⟩
      · by_cases hjm : j = m
        · subst hjm
          have : j ≠ 0 ∧ d[j]! = d[j - 1]! := by simpa [keeps] using hk'
          rw [this.2]
          exact h3 (j - 1) (by have := this.1; omega)
        · exact h3 j (by omega)

/-- What sorting and compacting makes of a list: it rises, and holds the same keys. -/
theorem sorted_compact (l : List (ByteArray × ByteArray)) (d : Array (ByteArray × ByteArray)) (hp : PermIn 0 l.length l.toArray d) (hs : SortedIn (ltOf cmpK) 0 l.length d) :
    Rises (compact d.toList) ∧ (∀ x, x ∈ compact d.toList ↔ x ∈ l) ∧ d.size = l.length := by
  obtain ⟨h1, _, h3⟩ := hp
  have hsz : d.size = l.length := by simpa using h1
  have hperm : d.toList.Perm l := by
    have e1 : (d.extract 0 l.length).toList = d.toList := by rw [← hsz]; simp
    have e2 : (l.toArray.extract 0 l.length).toList = l := by simp
    rw [e1, e2] at h3
    exact h3
  have hd : d.toList.toArray = d := by simp
  obtain ⟨r1, r2, r3⟩ := compact_rises d l.length hs l.length (Nat.le_refl _)
  have e : compact d.toList = compactUpTo d l.length := by
    unfold compact
    rw [hd, Array.length_toList, hsz]
  rw [e]
  refine ⟨r1, fun x => ?_, hsz⟩
  rw [← hperm.mem_iff]
  constructor
  · intro hx
    obtain ⟨j, hj, rfl⟩ := r2 x hx
    rw [getElem!_pos d j (by omega)]
    exact Array.getElem_mem_toList ..
  · intro hx
    obtain ⟨j, hj, rfl⟩ := List.mem_iff_getElem.1 hx
    have hj' : j < d.size := by simpa using hj
    have := r3 j (by omega)
    rw [getElem!_pos d j hj'] at this
    simpa using this

end Go.Proofs.Ytmihddbnddgfhaa.Z

/-
  The contract of Sort of package name, whatever the number of keys.
-/
namespace Go.Proofs.Ytmihddbnddgfhaa.Z
open Go.RowKit Go.Sort Go.Lib

theorem size_putCells (enc : Value → Value) (off : Nat) (d c : Array Value) : (putCells enc off d c).size = c.size := by
  unfold putCells; simp

theorem zown_sorted {w1 : World} {base g cap n : Nat} {cur : Array Value} {os : Array Obj} (d d' : Array (ByteArray × ByteArray)) (hb : base ≤ g) (hg : g < w1.heap.size) (hheap : w1.heap[g]? = some (.cells cur 67 (0, 0)))
    (hcap : d.size ≤ cap) (hm : cap ≤ maxLen) (hsz : cur.size = cap * 2) (hH : HoldsK encKey 2 w1 g 0 d) (hd : d'.size = d.size) :
    Own (sortWorldK encKey 2 w1 g 0 n d' os) base (.slice (some ⟨g, 0, none⟩) d'.size cap) d'.toList := by
  have hH2 : HoldsK encKey 2 (sortWorldK encKey 2 w1 g 0 n d' os) g 0 d' :=
    holdsK_grow encKey 2 _ os g 0 _ (by simpa [putRowK] using hg) (holdsK_putRowK encKey 2 (Sort.ahead w1 n) g 0 _ _ (holdsK_ahead encKey 2 w1 n g 0 _ hH) hd)
  have hh : (sortWorldK encKey 2 w1 g 0 n d' os).heap[g]? = some (.cells (putCells id 0 (flatK encKey 2 d') cur) 67 (0, 0)) := by
    simp only [sortWorldK, grow, putRowK, putRow, mapBlock, Sort.ahead]
    rw [Array.getElem?_append_left (by simpa using hg), Array.getElem?_modify, if_pos rfl, hheap]
    rfl
  refine ⟨cellsL_length _, .inr ⟨g, cap, _, by simp, hb, hh, by simp; omega, hm, by rw [size_putCells, hsz], ?_⟩⟩
  apply List.ext_getElem?
  intro j
  by_cases hj : j < d'.size * 2
  · rw [List.getElem?_take_of_lt (by simpa using hj)]
    have h1 := (hH2 j (by simpa using hj)).1
    simp only [World.cell?, hh, Nat.zero_add] at h1
    rw [get_flatK _ _ _ _ hj] at h1
    have h2 := flat_get d'.toList j (by simpa using hj)
    have he : d'.toList[j / 2]! = d'[j / 2]! := by
      rw [getElem!_pos d' (j / 2) (by omega), getElem!_pos d'.toList (j / 2) (by simp; omega)]; simp
    rw [he] at h2
    have h3 : (putCells id 0 (flatK encKey 2 d') cur)[j]? = some (encKey d'[j / 2]!)[j % 2]! := h1
    rw [Array.getElem?_toList, h3]
    exact h2.symm
  · rw [List.getElem?_eq_none (by rw [List.length_take]; simp; omega), List.getElem?_eq_none (by rw [cellsL_length]; simp; omega)]

end Go.Proofs.Ytmihddbnddgfhaa.Z

/-
  The contract of Sort of package name.
-/
namespace Go.Proofs.Ytmihddbnddgfhaa
open Go.RowKit

theorem z_own {n0 : Nat} {w : World} {v : Value} {d : List Ky} : Z.Own w n0 v d ↔ KK.Own n0 w v d := Iff.rfl
theorem z_at {w : World} {b off : Nat} {d : List Ky} (h : KK.At w b off d) : Z.KeysAt w b off d := fun i hi => kk_at h i hi

theorem z_lt (x y : Ky) : Z.ahead x y ↔ ltKy x y = true := by
  unfold Z.ahead Z.cmpK Z.cmpI Z.orI
  rw [ltKy_true]
  unfold ltB
  rw [decide_eq_true_iff, decide_eq_true_iff]
  by_cases h : Lib.compareBytes x.1.data.toList y.1.data.toList = 0
  · rw [if_pos h]
    have e : x.1 = y.1 := ba_eq ((cb_zero _ _).1 h)
    constructor
    · intro k; exact Or.inr ⟨e, k⟩
    · rintro (k | ⟨_, k⟩)
      · omega
      · exact k
  · rw [if_neg h]
    constructor
    · intro k; exact Or.inl k
    · rintro (k | ⟨e, _⟩)
      · exact k
      · rw [e, cb_self] at h; exact absurd rfl h

theorem z_rises {r : List Ky} (h : Z.Rises r) : RisingR ltKy r := h.imp fun {x y} hxy => (z_lt x y).1 hxy
theorem z_rises' {r : List Ky} (h : RisingR ltKy r) : Z.Rises r := h.imp fun {x y} hxy => (z_lt x y).2 hxy

/-- The keys, rising, each once. -/
def sortK (ks : List Ky) : List Ky := ks.foldl (fun acc x => insR ltKy x acc) []
theorem sortK_spec (ks : List Ky) : RisingR ltKy (sortK ks) ∧ ∀ z, z ∈ sortK ks ↔ z ∈ ks := by
  have : ∀ (l acc : List Ky), RisingR ltKy acc → RisingR ltKy (l.foldl (fun acc x => insR ltKy x acc) acc) ∧ ∀ z, z ∈ l.foldl (fun acc x => insR ltKy x acc) acc ↔ z ∈ acc ∨ z ∈ l := by
    intro l
    induction l with
    | nil => intro acc h; exact ⟨h, fun z => by simp⟩
    | cons y l ih =>
      intro acc h
      obtain ⟨h1, h2⟩ := ih (insR ltKy y acc) (rising_insR totK y h)
      refine ⟨h1, fun z => ?_⟩
      rw [List.foldl_cons, h2, mem_insR, List.mem_cons]
      constructor
      · rintro ((h | h) | h)
        · exact Or.inr (Or.inl h)
        · exact Or.inl h
        · exact Or.inr (Or.inr h)
      · rintro (h | h | h)
        · exact Or.inl (Or.inr h)
        · exact Or.inl (Or.inl h)
        · exact Or.inr h
  obtain ⟨h1, h2⟩ := this ks [] List.Pairwise.nil
  exact ⟨h1, fun z => by rw [sortK, h2]; simp⟩

end Go.Proofs.Ytmihddbnddgfhaa

/-
  One more appended to a row of one's own, of whatever kind; nothing older turns. No program.
-/
namespace Go.Proofs.Ytmihddbnddgfhaa
open Go.RowKit

/-- v owns the row l, in a block from N on; ahead of N all is as in W. -/
structure RowSt {α : Type} (K : Kind α) (N : Nat) (W : World) (v : Value) (l : List α) (w : World) : Prop where
  own : K.Own N w v l
  bel : Below N W w
  base : N ≤ w.heap.size

theorem below_grown {N : Nat} {W w w' : World} {ob : Option Nat} (hb : Below N W w) (hg : w.grownBy w' ob) (ho : ∀ k, ob = some k → N ≤ k) (hN : N ≤ w.heap.size) : Below N W w' :=
  hb.trans ⟨hg.os, hg.tape, hg.output, hg.size, fun k hk => hg.block k (by omega) fun e => by have := ho k e.symm; omega⟩

section
variable {α : Type} {K : Kind α} {N : Nat} {W : World} {v : Value} {l : List α} {w : World}
theorem RowSt.nil (K : Kind α) (hb : Below N W w) (hN : N ≤ w.heap.size) : RowSt K N W (.slice none 0 0) [] w := ⟨Kind.own_nil _ _ _, hb, hN⟩
theorem RowSt.on {w' : World} (h : RowSt K N W v l w) (hb : Below w.heap.size w w') : RowSt K N W v l w' := ⟨Kind.own_on h.own hb, h.bel.trans (hb.mono h.base), Nat.le_trans h.base hb.size⟩
theorem RowSt.is (h : RowSt K N W v l w) : K.Is w v l := Kind.own_is h.own

theorem RowSt.push {g cap : Nat} {w' : World} {x : α} (h : RowSt K N W v l w) (ho : w'.ownsRow N K.T K.k (.slice (some ⟨g, 0, none⟩) (l.length + 1) cap) (l.length + 1) (K.cells l ++ K.cells [x])) (hg : w.grownBy w' v.ownBlock) : RowSt K N W (.slice (some ⟨g, 0, none⟩) (l.length + 1) cap) (l ++ [x]) w' :=
  ⟨Kind.own_snoc ho rfl rfl, below_grown h.bel hg (fun k hk => (World.ownsRow.lt h.own k hk).1) h.base, Nat.le_trans h.base hg.size⟩
end

theorem news_box {α : Type} (K : Kind α) {w : World} {B : Nat} {x : α} {t : TypeId} {fz : Nat × Nat} (h : w.heap[B]? = some (.cells (K.enc x).toArray t fz)) : ∀ j u, (K.cells [x])[j]? = some u → w.cell? ((⟨B, 0, none⟩ : Addr).add j) = some u := fun j u hu => by
  rw [K.cells_one] at hu
  exact World.news_of_block h j u (by simpa using hu)

section
variable {P : Program} {α : Type} {w : World} {ops : Array Oper} {rest : List Oper} {o : Oper} {a : Act} {Q : Exit → Act → World → Prop}

/-- 'l = append(l, x)' outside a region that draws. -/
theorem wpList_push (K : Kind α) (hgd : o.guard = none) (s x : Operand) (t : TypeId) (ho : o.op = .call { callee := .builtin .append, args := #[s, x], argTypes := #[t, t] })
    (i : TypeInfo) (z : Value) (bytes : Nat) (ht : P.underlying t = some (.slice K.T)) (hi : P.info? K.T = some i) (hz : i.zero = some z) (hsize : i.size = K.k) (hby : i.bytes = bytes) (hzs : z.cells.size = K.k)
    (N : Nat) (W : World) (v : Value) (l : List α) (hs : a.eval s = v) (hst : RowSt K N W v l w) (y : α) (B m c : Nat) (hm : m = 1) (hx : a.eval x = .slice (some ⟨B, 0, none⟩) m c) (te : TypeId) (fz : Nat × Nat) (hB : w.heap[B]? = some (.cells (K.enc y).toArray te fz))
    (hlen : l.length + 1 ≤ maxLen) (hbytes : (l.length + 1) * bytes ≤ 140737488355328)
    (h : ∀ g cap w', RowSt K N W (.slice (some ⟨g, 0, none⟩) (l.length + 1) cap) (l ++ [y]) w' → w.grownBy w' v.ownBlock → (v.ownBlock = some g ∨ g = w.heap.size) → wpList P ops Q rest (a.put o.dst (.slice (some ⟨g, 0, none⟩) (l.length + 1) cap)) w') : wpList P ops Q (o :: rest) a w := by
  subst hm
  refine wpList_append_lies _ hgd s x t ho N K.T i z K.k bytes ht hi hz hsize hby hzs K.pos v l.length (K.cells l) hs hst.own ⟨B, 0, none⟩ 1 c (K.cells [y]) hx ?_ (news_box K hB) (K.cells_ones _) (by decide) hlen hbytes hst.base _ rfl ?_
  · rw [K.cells_len]; rfl
  · exact fun g cap w' h1 h2 h3 _ => h g cap w' (hst.push h1 h2) h2 h3

/-- 'l = append(l, x)' at a step of a region that draws. -/
theorem step_push {Kx : Act → World → Prop} {E : Prop} (K : Kind α) (hgd : o.guard = none) (s x : Operand) (t : TypeId) (ho : o.op = .call { callee := .builtin .append, args := #[s, x], argTypes := #[t, t] })
    (i : TypeInfo) (z : Value) (bytes : Nat) (ht : P.underlying t = some (.slice K.T)) (hi : P.info? K.T = some i) (hz : i.zero = some z) (hsize : i.size = K.k) (hby : i.bytes = bytes) (hzs : z.cells.size = K.k)
    (N : Nat) (W : World) (v : Value) (l : List α) (hs : a.eval s = v) (hst : RowSt K N W v l w) (y : α) (B m c : Nat) (hm : m = 1) (hx : a.eval x = .slice (some ⟨B, 0, none⟩) m c) (te : TypeId) (fz : Nat × Nat) (hB : w.heap[B]? = some (.cells (K.enc y).toArray te fz))
    (hlen : l.length + 1 ≤ maxLen) (hbytes : (l.length + 1) * bytes ≤ 140737488355328)
    (h : ∀ g cap w', RowSt K N W (.slice (some ⟨g, 0, none⟩) (l.length + 1) cap) (l ++ [y]) w' → w.grownBy w' v.ownBlock → (v.ownBlock = some g ∨ g = w.heap.size) → Kx (a.put o.dst (.slice (some ⟨g, 0, none⟩) (l.length + 1) cap)) w') :
    if Region.wanted o (yielded ops a.tmps) = true then Oper.wp P o a w Kx Q else E := by
  subst hm
  refine step_append_lies _ hgd s x t ho N K.T i z K.k bytes ht hi hz hsize hby hzs K.pos v l.length (K.cells l) hs hst.own ⟨B, 0, none⟩ 1 c (K.cells [y]) hx ?_ (news_box K hB) (K.cells_ones _) (by decide) hlen hbytes hst.base _ rfl ?_
  · rw [K.cells_len]; rfl
  · exact fun g cap w' h1 h2 h3 _ => h g cap w' (hst.push h1 h2) h2 h3
end

end Go.Proofs.Ytmihddbnddgfhaa

/-
  The contracts of token and Token of package name, and of bar and Token of the reference.
-/
namespace Go.Proofs.Ytmihddbnddgfhaa
open Go.RowKit



def tokSys (s : ByteArray) : ByteArray := if 0 ≤ Lib.indexByte s.data.toList 124 then s.extract 0 (Lib.indexByte s.data.toList 124).toNat else ⟨#[]⟩
def tokCode (s : ByteArray) : ByteArray := if 0 ≤ Lib.indexByte s.data.toList 124 then s.extract ((Lib.indexByte s.data.toList 124).toNat + 1) s.size else s
def tokenB (p t : ByteArray) : Bool :=
  if 0 ≤ Lib.indexByte p.data.toList 124 then ((tokSys p).toList == (tokSys t).toList) && ((tokCode p).toList == (tokCode t).toList || (tokCode p).toList.isEmpty)
  else p.toList == (tokCode t).toList

theorem tok_no {s : ByteArray} (h : Lib.indexByte s.data.toList 124 = -1) : tokSys s = ⟨#[]⟩ ∧ tokCode s = s := by
  unfold tokSys tokCode; rw [h]; exact ⟨rfl, rfl⟩
theorem tok_yes {s : ByteArray} {i : Nat} (h : Lib.indexByte s.data.toList 124 = (i : Int)) : tokSys s = s.extract 0 i ∧ tokCode s = s.extract (i + 1) s.size := by
  unfold tokSys tokCode; rw [h, if_pos (by omega), if_pos (by omega), Int.toNat_natCast]; exact ⟨rfl, rfl⟩
theorem tokenB_bare {p : ByteArray} (t : ByteArray) (h : Lib.indexByte p.data.toList 124 = -1) : tokenB p t = (p.toList == (tokCode t).toList) := by
  unfold tokenB; rw [h]; rfl
theorem tokenB_bar {p : ByteArray} {i : Nat} (t : ByteArray) (h : Lib.indexByte p.data.toList 124 = (i : Int)) :
    tokenB p t = (((tokSys p).toList == (tokSys t).toList) && ((tokCode p).toList == (tokCode t).toList || (tokCode p).toList.isEmpty)) := by
  unfold tokenB; rw [h, if_pos (by omega)]

set_option maxHeartbeats 400000 in
theorem token_no (s : ByteArray) (w : World) (hix : Lib.indexByte s.data.toList 124 = -1) :
    Calls Try.prog 88 #[.string s] w fun e w' => e = .returned (.tuple #[.string ⟨#[]⟩, .string s]) ∧ w' = w := by
  have HX : Hid (Lib.indexByte s.data.toList 124 = -1) := hix
  clear hix
  go_enter Try.func88, Try.ntmps88
  go_wp2_with (go_at_call 93; refine (cut_no _ _ _ HX.out).mono ?_; rintro e w' ⟨rfl, rfl⟩)
  go_ret2
  exact ⟨rfl, rfl⟩

set_option maxHeartbeats 400000 in
theorem token_yes (s : ByteArray) (w : World) (i : Nat) (hix : Lib.indexByte s.data.toList 124 = (i : Int)) (hi : i < s.size) (hs : s.size ≤ maxLen) :
    Calls Try.prog 88 #[.string s] w fun e w' => e = .returned (.tuple #[.string (s.extract 0 i), .string (s.extract (i + 1) s.size)]) ∧ ∃ n, w' = w.drewN n := by
  have HX : Hid (Lib.indexByte s.data.toList 124 = (i : Int) ∧ i < s.size ∧ s.size ≤ maxLen) := ⟨hix, hi, hs⟩
  clear hix hi hs
  go_enter Try.func88, Try.ntmps88
  go_wp2_with (go_at_call 93; refine (cut_yes _ _ _ i HX.out.1 HX.out.2.1 HX.out.2.2).mono ?_; rintro e w' ⟨rfl, n, rfl⟩)
  go_ret2
  exact ⟨rfl, n, rfl⟩

theorem token_any (s : ByteArray) (w : World) (hs : s.size ≤ maxLen) :
    Calls Try.prog 88 #[.string s] w fun e w' => e = .returned (.tuple #[.string (tokSys s), .string (tokCode s)]) ∧ ∃ n, w' = w.drewN n := by
  rcases ix_cases s.data.toList 124 with ⟨h1, _⟩ | ⟨i, h1, h2, _, _⟩
  · rw [(tok_no h1).1, (tok_no h1).2]
    exact (token_no s w h1).mono fun e w' ⟨a, b⟩ => ⟨a, 0, by rw [b]; rfl⟩
  · rw [(tok_yes h1).1, (tok_yes h1).2]
    exact token_yes s w i h1 (by simpa using h2) hs

set_option maxHeartbeats 400000 in
theorem Token_any (p t : ByteArray) (w : World) (hp : p.size ≤ maxLen) (ht : t.size ≤ maxLen) :
    Calls Try.prog 78 #[.string p, .string t] w fun e w' => e = .returned (.bool (tokenB p t)) ∧ ∃ n, w' = w.drewN n := by
  have HS : Hid (p.size ≤ maxLen ∧ t.size ≤ maxLen) := ⟨hp, ht⟩
  clear hp ht
  rcases ix_cases p.data.toList 124 with ⟨h1, _⟩ | ⟨i, h1, _, _, _⟩
  · have HB := hid (tokenB_bare t h1)
    have hd : decide (0 ≤ Lib.indexByte p.data.toList 124) = false := by rw [h1]; rfl
    clear h1
    go_enter Try.func78, Try.ntmps78
    go_wp2_with (first | (go_at_call 88; refine (token_any _ _ HS.out.2).mono ?_; rintro e w' ⟨rfl, n, rfl⟩) | (go_at_call 89; refine (Try.strings_Contains_one _ _ _).mono ?_; rintro e w' ⟨rfl, rfl⟩))
    go_ret
    exact ⟨ret_bool (HB.out).symm, n, rfl⟩
  · have HB := hid (tokenB_bar t h1)
    have hd : decide (0 ≤ Lib.indexByte p.data.toList 124) = true := by rw [h1]; simp
    clear h1
    go_enter Try.func78, Try.ntmps78
    go_wp2_with fail
    refine (token_any _ _ HS.out.2).mono ?_
    rintro e w' ⟨rfl, n, rfl⟩
    go_wp2_with (go_at_call 89; refine (Try.strings_Contains_one _ _ _).mono ?_; rintro e w' ⟨rfl, rfl⟩)
    refine (token_any _ _ HS.out.1).mono ?_
    rintro e w' ⟨rfl, m, rfl⟩
    cases e1 : ((tokSys p).toList == (tokSys t).toList)
    · go_wp2_with fail
      go_ret
      exact ⟨ret_bool (by rw [HB.out, e1]; rfl), _, rfl⟩
    · cases e2 : ((tokCode p).toList == (tokCode t).toList)
      · go_wp2_with fail
        go_ret
        exact ⟨ret_bool (by rw [HB.out, e1, e2]; rfl), _, rfl⟩
      · go_wp2_with fail
        go_ret
        exact ⟨ret_bool (by rw [HB.out, e1, e2]; rfl), _, rfl⟩

end Go.Proofs.Ytmihddbnddgfhaa

/-
  The contracts of the reference's bar and Token.
-/
namespace Go.Proofs.Ytmihddbnddgfhaa
open Go.RowKit

/-- No byte c among the first k. -/
theorem ix_none_of (s : ByteArray) (c : UInt8) (h : ∀ j, (hj : j < s.size) → s[j] ≠ c) : Lib.indexByte s.data.toList c = -1 := by
  rcases ix_cases s.data.toList c with ⟨h1, _⟩ | ⟨i, _, h2, h3, _⟩
  · exact h1
  · have hi : i < s.size := by simpa using h2
    rw [Lib.data_getElem? s i hi] at h3
    exact absurd (Option.some.inj h3) (h i hi)

theorem ix_at_of (s : ByteArray) (c : UInt8) (k : Nat) (hk : k < s.size) (h : ∀ j, j < k → (hj : j < s.size) → s[j] ≠ c) (hc : s[k] = c) : Lib.indexByte s.data.toList c = (k : Int) := by
  rcases ix_cases s.data.toList c with ⟨_, h2⟩ | ⟨i, h1, h2, h3, h4⟩
  · exfalso
    apply h2
    rw [← hc, ← byte_at s k hk]
    exact List.getElem_mem _
  · have hi : i < s.size := by simpa using h2
    rw [Lib.data_getElem? s i hi] at h3
    have e3 := Option.some.inj h3
    rcases Nat.lt_trichotomy i k with hl | rfl | hl
    · exact absurd e3 (h i hl hi)
    · exact h1
    · exfalso
      apply h4
      rw [← hc, ← byte_at s k hk]
      rw [List.mem_iff_getElem]
      exact ⟨k, by simp; omega, by rw [List.getElem_take]⟩

set_option maxHeartbeats 400000 in
theorem bar_any (s : ByteArray) (w : World) (hs : s.size ≤ maxLen) :
    Calls Try.prog 92 #[.string s] w fun e w' => e = .returned (.int .i64 (Lib.indexByte s.data.toList 124)) ∧ w' = w := by
  unfold maxLen at hs
  have HN := hid (ix_none_of s 124)
  have HA := hid (ix_at_of s 124)
  generalize Lib.indexByte s.data.toList 124 = r at *
  go_enter Try.func92, Try.ntmps92
  go_wp2
  go_loop [3] (fun i => ∃ k : Nat, k ≤ s.size ∧ i = .int .i64 k ∧ (∀ j, j < k → (hj : j < s.size) → s[j] ≠ 124)) (fun i => s.size - (intOf i).toNat)
  case atStart => exact ⟨0, by omega, rfl, fun j h => by omega⟩
  case round =>
    obtain ⟨k, hk, rfl, hall⟩ := hrel
    have HL := hid hall
    clear hall
    by_cases hlt : k < s.size
    · by_cases hc : s[k] = 124
      · have hb : ((s[k].toNat : Int) == 124) = true := by rw [hc]; rfl
        have HC := hid hc
        clear hc
        go_wp2
        go_ret
        exact ⟨ret_int (HA.out k hlt HL.out HC.out).symm, rfl⟩
      · have hb : ((s[k].toNat : Int) == 124) = false := by
          rw [beq_eq_false_iff_ne]
          intro h
          apply hc
          apply UInt8.toNat_inj.1
          have : (124 : UInt8).toNat = 124 := rfl
          omega
        have HC := hid hc
        clear hc
        go_wp2
        go_round
        case rel =>
          refine ⟨k + 1, by omega, by go_num, fun j h1 hj => ?_⟩
          by_cases hjk : j = k
          · subst hjk; exact HC.out
          · exact HL.out j (by omega) hj
        case measure => simp [intOf]; omega
    · go_wp2
      go_ret
      exact ⟨ret_int (HN.out fun j hj => HL.out j (by omega) hj).symm, rfl⟩

theorem beq_nil_isEmpty (l : List UInt8) : (l == (⟨#[]⟩ : ByteArray).toList) = l.isEmpty := by
  rw [Lib.toList_data]
  cases l <;> rfl

set_option maxHeartbeats 800000 in
theorem rtoken_any (p t : ByteArray) (w : World) (hp : p.size ≤ maxLen) (ht : t.size ≤ maxLen) :
    Calls Try.prog 86 #[.string p, .string t] w fun e w' => e = .returned (.bool (tokenB p t)) ∧ ∃ n, w' = w.drewN n := by
  have HS := hid (And.intro hp ht)
  unfold maxLen at hp ht
  have kp := fun W => bar_any p W HS.out.1
  have kt := fun W => bar_any t W HS.out.2
  rcases ix_cases p.data.toList 124 with ⟨h1, _⟩ | ⟨j, h1, hj, _, _⟩
  · have hb := tokenB_bare t h1
    rw [h1] at kp
    have KP := hid kp
    rcases ix_cases t.data.toList 124 with ⟨h2, _⟩ | ⟨i, h2, hi, _, _⟩
    · rw [(tok_no h2).2] at hb
      rw [h2] at kt
      have KT := hid kt
      have HB := hid hb
      clear kp kt hb h1 h2
      go_enter Try.func86, Try.ntmps86
      go_wp2_with fail
      refine (KP.out _).mono ?_
      rintro e w' ⟨rfl, rfl⟩
      go_wp2_with fail
      refine (KT.out _).mono ?_
      rintro e w' ⟨rfl, rfl⟩
      go_wp2_with fail
      go_ret
      exact ⟨ret_bool HB.out.symm, 0, rfl⟩
    · have hi' : i < t.size := by simpa using hi
      rw [(tok_yes h2).2] at hb
      rw [h2] at kt
      have KT := hid kt
      have HB := hid hb
      clear kp kt hb h1 h2 hi
      have c1 : (0 : Int) ≤ ↑i := by omega
      have c2 : (↑i : Int) ≤ ↑t.size := by omega
      have c3 : (0 : Int) ≤ ↑i + 1 := by omega
      have c4 : (↑i + 1 : Int) ≤ ↑t.size := by omega
      go_enter Try.func86, Try.ntmps86
      go_wp2_with fail
      refine (KP.out _).mono ?_
      rintro e w' ⟨rfl, rfl⟩
      go_wp2_with fail
      refine (KT.out _).mono ?_
      rintro e w' ⟨rfl, rfl⟩
      go_wp2_with fail
      go_quiet (fail)
      go_wp2_with fail
      go_ret
      exact ⟨ret_bool HB.out.symm, _, rfl⟩
  · have hj' : j < p.size := by simpa using hj
    have hb := tokenB_bar t h1
    rw [(tok_yes h1).1, (tok_yes h1).2] at hb
    rw [h1] at kp
    have KP := hid kp
    have d1 : (0 : Int) ≤ ↑j := by omega
    have d2 : (↑j : Int) ≤ ↑p.size := by omega
    have d3 : (0 : Int) ≤ ↑j + 1 := by omega
    have d4 : (↑j + 1 : Int) ≤ ↑p.size := by omega
    rcases ix_cases t.data.toList 124 with ⟨h2, _⟩ | ⟨i, h2, hi, _, _⟩
    · rw [(tok_no h2).1, (tok_no h2).2, beq_nil_isEmpty] at hb
      rw [h2] at kt
      have KT := hid kt
      have HB := hid hb
      clear kp kt hb h1 h2 hj
      cases e1 : (p.extract 0 j).toList.isEmpty <;> cases e2 : (p.extract (j + 1) p.size).toList.isEmpty
      all_goals
        go_enter Try.func86, Try.ntmps86
        go_wp2_with fail
        refine (KP.out _).mono ?_
        rintro e w' ⟨rfl, rfl⟩
        go_wp2_with fail
        refine (KT.out _).mono ?_
        rintro e w' ⟨rfl, rfl⟩
        go_wp2_with fail
        go_ret
        exact ⟨ret_bool (by rw [HB.out, e1, e2]; simp), 0, rfl⟩
    · have hi' : i < t.size := by simpa using hi
      rw [(tok_yes h2).1, (tok_yes h2).2] at hb
      rw [h2] at kt
      have KT := hid kt
      have HB := hid hb
      clear kp kt hb h1 h2 hi hj
      have c1 : (0 : Int) ≤ ↑i := by omega
      have c2 : (↑i : Int) ≤ ↑t.size := by omega
      have c3 : (0 : Int) ≤ ↑i + 1 := by omega
      have c4 : (↑i + 1 : Int) ≤ ↑t.size := by omega
      cases e1 : ((p.extract 0 j).toList == (t.extract 0 i).toList) <;> cases e2 : (p.extract (j + 1) p.size).toList.isEmpty
      all_goals
        go_enter Try.func86, Try.ntmps86
        go_wp2_with fail
        refine (KP.out _).mono ?_
        rintro e w' ⟨rfl, rfl⟩
        go_wp2_with fail
        refine (KT.out _).mono ?_
        rintro e w' ⟨rfl, rfl⟩
        go_wp2_with fail
        go_quiet (fail)
        go_wp2_with fail
        go_ret
        exact ⟨ret_bool (by rw [HB.out, e1, e2]; simp), _, rfl⟩

end Go.Proofs.Ytmihddbnddgfhaa

/-
  What terms mean; the contracts of the reference's begins, Holds and Match.
-/
namespace Go.Proofs.Ytmihddbnddgfhaa
open Go.RowKit

/-- Does s begin with t? -/
def beginsB (s t : ByteArray) : Bool := decide (t.size ≤ s.size) && ((s.extract 0 t.size).toList == t.toList)

/-- Does a term hold of these texts? -/
def holdsT (x : Tm) (ts : List ByteArray) : Bool :=
  if x.2.1 = 1 then ts.any (tokenB x.2.2) else if x.2.1 = 2 then !ts.any (tokenB x.2.2) else if x.2.1 = 3 then ts.any (fun t => beginsB t x.2.2) else
  if x.2.1 = 4 then ts.any (fun t => ltB t x.2.2) else if x.2.1 = 5 then ts.any (fun t => ltB x.2.2 t) else if x.2.1 = 6 then decide (0 < ts.length) else if x.2.1 = 7 then decide (ts.length = 0) else false
def holdsM (x : Tm) (fs : List Fld) : Bool := holdsT x (textsOf fs x.1)
def matchM (p : List Tm) (fs : List Fld) : Bool := p.all fun x => holdsM x fs

set_option maxHeartbeats 1000000 in
theorem rbegins_any (s t : ByteArray) (w : World) (ht : t.size ≤ maxLen) :
    Calls Try.prog 87 #[.string s, .string t] w fun e w' => e = .returned (.bool (beginsB s t)) ∧ w' = w := by
  unfold maxLen at ht
  have HB : Hid (beginsB s t = (decide (t.size ≤ s.size) && ((s.extract 0 t.size).toList == t.toList))) := rfl
  by_cases h : t.size ≤ s.size
  · have hz : (t.size : Int) ≤ (s.size : Int) := by omega
    have h0 : (0 : Int) ≤ (t.size : Int) := by omega
    have hd : decide (t.size ≤ s.size) = true := decide_eq_true h
    have HV : Hid (beginsB s t = ((s.extract 0 t.size).toList == t.toList)) := by show _ = _; rw [HB.out, hd]; rfl
    clear hd
    go_enter Try.func87, Try.ntmps87
    go_wp2_with fail
    go_ret
    exact ⟨ret_bool HV.out.symm, rfl⟩
  · have hz : ¬ (t.size : Int) ≤ (s.size : Int) := by omega
    have HV : Hid (beginsB s t = false) := by show _ = _; rw [HB.out, decide_eq_false h]; rfl
    go_enter Try.func87, Try.ntmps87
    go_wp2_with fail
    go_ret
    exact ⟨ret_bool HV.out.symm, rfl⟩

theorem any_snocT {ts : List ByteArray} {f : ByteArray → Bool} {i : Nat} (h : i < ts.length) : (ts.take (i + 1)).any f = ((ts.take i).any f || f ts[i]) := by
  rw [List.take_succ_eq_append_getElem h, List.any_append]
  simp

theorem gtr_of (t x : ByteArray) : (!ltB t x && !(t.toList == x.toList)) = ltB x t := by
  rcases ltB_cases t x with h | h | h
  · rw [h, ltB_asymm h]; rfl
  · subst h; rw [ltB_irrefl]; simp
  · rw [h, ltB_asymm h, seq_false (fun e => by subst e; rw [ltB_irrefl] at h; cases h)]; rfl

set_option maxHeartbeats 8000000 in
set_option maxRecDepth 100000 in
theorem rholds_any (x : Tm) (v : Value) (d : List Fx) (w : World) (hv : IsXs w v d) (hf : FitX d) (hx : x.2.2.size ≤ maxLen) :
    Calls Try.prog 76 #[.agg #[.string x.1, .int .i64 x.2.1, .string x.2.2], v] w fun e w' => e = .returned (.bool (holdsM x (d.map Fx.fld))) ∧ Grown w w' := by
  obtain ⟨xf, xo, xt⟩ := x
  simp only at hx ⊢
  have hbox : Below w.heap.size w (w.alloc (.cells #[.string xf, .int .i64 xo, .string xt] 87)) := (Below.refl _ _).alloc (Nat.le_refl _) _
  have HT := hid (rtexts_any v xf d _ (hv.kept hbox) hf)
  have hfit : ∀ t ∈ textsOf (d.map Fx.fld) xf, t.size ≤ maxLen := fun t ht => by
    unfold textsOf at ht
    cases hfd : (d.map Fx.fld).find? fun f => decide (f.1 = xf) with
    | none => rw [hfd] at ht; simp at ht
    | some f =>
      rw [hfd] at ht
      obtain ⟨y, hy, rfl⟩ := List.mem_map.1 (List.mem_of_find?_eq_some hfd)
      exact (hf.2 y hy).2.2 t ht
  have hlen : (textsOf (d.map Fx.fld) xf).length ≤ maxLen := by
    unfold textsOf
    cases hfd : (d.map Fx.fld).find? fun f => decide (f.1 = xf) with
    | none => unfold maxLen; simp
    | some f =>
      obtain ⟨y, hy, rfl⟩ := List.mem_map.1 (List.mem_of_find?_eq_some hfd)
      exact (hf.2 y hy).2.1
  have HH : Hid (holdsM (xf, xo, xt) (d.map Fx.fld) = holdsT (xf, xo, xt) (textsOf (d.map Fx.fld) xf)) := rfl
  obtain ⟨ts, hts⟩ : ∃ ts, textsOf (d.map Fx.fld) xf = ts := ⟨_, rfl⟩
  rw [hts] at HT hfit hlen HH
  rw [HH.out]
  have HFT := hid hfit
  unfold maxLen at hlen
  have HXS := hid hx
  have HG1 : Hid (Grown w (w.alloc (.cells #[.string xf, .int .i64 xo, .string xt] 87))) := (Grown.refl _).alloc _
  clear hv hf hx hbox hfit hts HH
  have mixed := Try.mixed
  obtain ⟨W1, hW1⟩ : ∃ W1, w.alloc (.cells #[.string xf, .int .i64 xo, .string xt] 87) = W1 := ⟨_, rfl⟩
  have hbk : W1.heap[w.heap.size]? = some (.cells #[.string xf, .int .i64 xo, .string xt] 87 (0, 0)) := by rw [← hW1]; exact heap_alloc_new _ _
  have k0 : ∀ n, (W1.drewN n).cell? ⟨w.heap.size, 0, none⟩ = some (.string xf) := fun n => by rw [Lib.cell_of_heap (show (W1.drewN n).heap[w.heap.size]? = _ from hbk)]; rfl
  have k1 : ∀ n, (W1.drewN n).cell? ⟨w.heap.size, 1, none⟩ = some (.int .i64 xo) := fun n => by rw [Lib.cell_of_heap (show (W1.drewN n).heap[w.heap.size]? = _ from hbk)]; rfl
  have k2 : ∀ n, (W1.drewN n).cell? ⟨w.heap.size, 2, none⟩ = some (.string xt) := fun n => by rw [Lib.cell_of_heap (show (W1.drewN n).heap[w.heap.size]? = _ from hbk)]; rfl
  rw [hW1] at HT HG1
  have e0 : W1.cell? ⟨w.heap.size, 0, none⟩ = some (.string xf) := k0 0
  clear hbk
  go_enter Try.func76, Try.ntmps76
  go_wp2_with (first | (go_at_call 85; refine HT.out.mono ?_; rintro e w1 ⟨⟨pl, cl, rfl, tl⟩, rfl⟩))
  have HTL := hid tl
  clear tl
  go_loopg [6, 7, 8, 9, 10] ts.length (fun g v6 v7 v8 v9 vi ws => ∃ i n : Nat, vi = .int .i64 i ∧ i ≤ ts.length ∧ ts.length - i ≤ g ∧ v6 = .bool ((ts.take i).any (tokenB xt)) ∧ v7 = .bool ((ts.take i).any (fun t => beginsB t xt)) ∧ v8 = .bool ((ts.take i).any (fun t => ltB t xt)) ∧ v9 = .bool ((ts.take i).any (fun t => ltB xt t)) ∧ ws = w1.drewN n)
  case atStart => exact ⟨0, 0, rfl, by omega, by omega, by simp, by simp, by simp, by simp, rfl⟩
  case round =>
    obtain ⟨i, n, rfl, hi, hgk, rfl, rfl, rfl, rfl, rfl⟩ := hrel
    by_cases hlt : i < ts.length
    · have hltz : (i : Int) < (ts.length : Int) := by omega
      have hiz : (0 : Int) ≤ (i : Int) := by omega
      obtain ⟨bt, ot, rfl, hct⟩ : ∃ b off, pl = some ⟨b, off, none⟩ ∧ ∀ i, (h : i < ts.length) → w1.cell? ⟨b, off + i, none⟩ = some (.string ts[i]) := by
        rcases HTL.out with h | h
        · rw [h] at hlt; simp at hlt
        · exact h
      have H6 := hid (any_snocT (f := tokenB xt) hlt)
      have H7 := hid (any_snocT (f := fun t => beginsB t xt) hlt)
      have H8 := hid (any_snocT (f := fun t => ltB t xt) hlt)
      have H9 := hid (any_snocT (f := fun t => ltB xt t) hlt)
      have hts := HFT.out _ (List.getElem_mem hlt)
      have hkf : ∀ m, (w1.drewN m).cell? ⟨w.heap.size, 2, none⟩ = some (.string xt) ∧ (w1.drewN m).cell? ⟨bt, ot + i, none⟩ = some (.string ts[i]) := fun m => ⟨k2 m, hct i hlt⟩
      obtain ⟨t, ht⟩ : ∃ t, ts[i] = t := ⟨_, rfl⟩
      rw [ht] at hkf H6 H7 H8 H9 hts
      have KF := hid hkf
      have HTK := hid (fun W => rtoken_any xt t W HXS.out hts)
      have HBG := hid (fun W => rbegins_any t xt W HXS.out)
      obtain ⟨B6, hB6⟩ : ∃ B, (ts.take i).any (tokenB xt) = B := ⟨_, rfl⟩
      obtain ⟨B7, hB7⟩ : ∃ B, (ts.take i).any (fun t => beginsB t xt) = B := ⟨_, rfl⟩
      obtain ⟨B8, hB8⟩ : ∃ B, (ts.take i).any (fun t => ltB t xt) = B := ⟨_, rfl⟩
      obtain ⟨B9, hB9⟩ : ∃ B, (ts.take i).any (fun t => ltB xt t) = B := ⟨_, rfl⟩
      rw [hB6] at H6 ⊢
      rw [hB7] at H7 ⊢
      rw [hB8] at H8 ⊢
      rw [hB9] at H9 ⊢
      obtain ⟨L8, hL8⟩ : ∃ B, ltB t xt = B := ⟨_, rfl⟩
      obtain ⟨L9, hL9⟩ : ∃ B, ltB xt t = B := ⟨_, rfl⟩
      have hg9 := gtr_of t xt
      rw [hL8, hL9] at hg9
      have HG9 := hid hg9
      clear hg9
      rw [hL8] at H8
      rw [hL9] at H9
      have g8 := sless_of hL8
      have g9 := sless_of hL9
      obtain ⟨W, hW⟩ : ∃ W, w1.drewN n = W := ⟨_, rfl⟩
      obtain ⟨f2, ct⟩ := hkf n
      rw [hW] at f2 ct ⊢
      have HW := hid hW
      clear hB6 hB7 hB8 hB9 hct ht hkf hts hW hL8 hL9
      go_upto_region 6 with fail
      go_cut [6] from 15 to 60 (fun v wx => (∃ m, wx = w1.drewN m) ∧ v = .bool (B6 || tokenB xt t))
      case first =>
        cases B6 with
        | true =>
          refine wp_region_quiet_lit mixed (by kernel_rfl) ?_
          repeat (go_big_quiet_step (fail))
          refine wpQuiet_nil ?_
          intro _ hw'
          obtain ⟨nq, hw''⟩ := hw'
          subst hw''
          go_wp2_with fail
          go_meet
          case rel => exact ⟨⟨_, by rw [← HW.out, World.drewN_drewN]⟩, rfl⟩
        | false =>
          refine wp_region_quiet_lit mixed (by kernel_rfl) ?_
          repeat (go_big_quiet_step (first | (go_at_call 86; refine Calls.quiet_of (HTK.out _))))
          refine wpQuiet_nil ?_
          intro _ hw'
          obtain ⟨nq, hw''⟩ := hw'
          subst hw''
          go_wp2_with fail
          go_meet
          case rel => exact ⟨⟨_, by rw [← HW.out, World.drewN_drewN]⟩, rfl⟩
      case rest =>
      obtain ⟨⟨m6, rfl⟩, rfl⟩ := hcut
      clear f2 ct HW
      obtain ⟨W, hW⟩ : ∃ W, w1.drewN m6 = W := ⟨_, rfl⟩
      obtain ⟨f2, ct⟩ := KF.out m6
      rw [hW] at f2 ct ⊢
      have HW := hid hW
      clear hW
      go_upto_region 7 with fail
      go_cut [7] from 15 to 60 (fun v wx => (∃ m, wx = w1.drewN m) ∧ v = .bool (B7 || beginsB t xt))
      case first =>
        cases B7 with
        | true =>
          refine wp_region_quiet_lit mixed (by kernel_rfl) ?_
          repeat (go_big_quiet_step (fail))
          refine wpQuiet_nil ?_
          intro _ hw'
          obtain ⟨nq, hw''⟩ := hw'
          subst hw''
          go_wp2_with fail
          go_meet
          case rel => exact ⟨⟨_, by rw [← HW.out, World.drewN_drewN]⟩, rfl⟩
        | false =>
          refine wp_region_quiet_lit mixed (by kernel_rfl) ?_
          repeat (go_big_quiet_step (first | (go_at_call 87; refine Calls.quiet_of_same (HBG.out _))))
          refine wpQuiet_nil ?_
          intro _ hw'
          obtain ⟨nq, hw''⟩ := hw'
          subst hw''
          go_wp2_with fail
          go_meet
          case rel => exact ⟨⟨_, by rw [← HW.out, World.drewN_drewN]⟩, rfl⟩
      case rest =>
      obtain ⟨⟨m7, rfl⟩, rfl⟩ := hcut
      clear f2 ct HW
      obtain ⟨W, hW⟩ : ∃ W, w1.drewN m7 = W := ⟨_, rfl⟩
      obtain ⟨f2, ct⟩ := KF.out m7
      rw [hW] at f2 ct ⊢
      have HW := hid hW
      clear hW
      go_upto_region 8 with fail
      go_cut [8] from 15 to 60 (fun v wx => (∃ m, wx = w1.drewN m) ∧ v = .bool (B8 || L8))
      case first =>
        cases B8 with
        | true =>
          refine wp_region_quiet_lit mixed (by kernel_rfl) ?_
          repeat (go_big_quiet_step (fail))
          refine wpQuiet_nil ?_
          intro _ hw'
          obtain ⟨nq, hw''⟩ := hw'
          subst hw''
          go_wp2_with fail
          go_meet
          case rel => exact ⟨⟨_, by rw [← HW.out, World.drewN_drewN]⟩, rfl⟩
        | false =>
          refine wp_region_quiet_lit mixed (by kernel_rfl) ?_
          repeat (go_big_quiet_step (fail))
          refine wpQuiet_nil ?_
          intro _ hw'
          obtain ⟨nq, hw''⟩ := hw'
          subst hw''
          go_wp2_with fail
          go_meet
          case rel => exact ⟨⟨_, by rw [← HW.out, World.drewN_drewN]⟩, rfl⟩
      case rest =>
      obtain ⟨⟨m8, rfl⟩, rfl⟩ := hcut
      clear f2 ct HW
      obtain ⟨W, hW⟩ : ∃ W, w1.drewN m8 = W := ⟨_, rfl⟩
      obtain ⟨f2, ct⟩ := KF.out m8
      rw [hW] at f2 ct ⊢
      have HW := hid hW
      clear hW
      cases B9 with
      | true =>
        go_wp2_with fail
        refine wp_region_quiet_lit mixed (by kernel_rfl) ?_
        repeat (go_big_quiet_step (fail))
        refine wpQuiet_nil ?_
        intro _ hw'
        obtain ⟨nq, hw''⟩ := hw'
        subst hw''
        go_wp2_with fail
        go_roundg (ts.length - (i + 1))
        case measure => omega
        case rel => exact ⟨i + 1, m8 + nq, by go_num, by omega, by omega, by rw [H6.out], by rw [H7.out], by rw [H8.out], by rw [H9.out]; rfl, by rw [← HW.out, World.drewN_drewN]⟩
      | false =>
        go_wp2_with fail
        refine wp_region_quiet_lit mixed (by kernel_rfl) ?_
        repeat (go_big_quiet_step (fail))
        refine wpQuiet_nil ?_
        intro _ hw'
        obtain ⟨nq, hw''⟩ := hw'
        subst hw''
        go_wp2_with fail
        go_roundg (ts.length - (i + 1))
        case measure => omega
        case rel => exact ⟨i + 1, m8 + nq, by go_num, by omega, by omega, by rw [H6.out], by rw [H7.out], by rw [H8.out], by rw [H9.out, ← HG9.out]; rfl, by rw [← HW.out, World.drewN_drewN]⟩
    · have hltz : ¬ (i : Int) < (ts.length : Int) := by omega
      rw [List.take_of_length_le (by omega)]
      have e1 := k1 n
      have HHT : Hid (holdsT (xf, xo, xt) ts = if xo = 1 then ts.any (tokenB xt) else if xo = 2 then !ts.any (tokenB xt) else if xo = 3 then ts.any (fun t => beginsB t xt) else if xo = 4 then ts.any (fun t => ltB t xt) else if xo = 5 then ts.any (fun t => ltB xt t) else if xo = 6 then decide (0 < ts.length) else if xo = 7 then decide (ts.length = 0) else false) := rfl
      have HGR : Hid (Grown w (w1.drewN n)) := HG1.out.drewN n
      have z6 : decide ((0 : Int) < (ts.length : Int)) = decide (0 < ts.length) := by rw [decide_eq_decide]; omega
      have z7 : ((ts.length : Int) == 0) = decide (ts.length = 0) := by rw [Bool.eq_iff_iff, beq_iff_eq, decide_eq_true_iff]; omega
      have Z6 := hid z6
      have Z7 := hid z7
      clear z6 z7
      by_cases h1 : xo = 1
      · have HV := HHT.out
        rw [if_pos h1] at HV
        have HVV := hid HV
        subst h1
        clear HV HHT 
        go_wp2_with fail
        go_ret
        exact ⟨ret_bool (by rw [HVV.out]), HGR.out⟩
      have d1 : (xo == 1) = false := beq_eq_false_iff_ne.2 h1
      by_cases h2 : xo = 2
      · have HV := HHT.out
        rw [if_neg h1, if_pos h2] at HV
        have HVV := hid HV
        subst h2
        clear HV HHT h1
        go_wp2_with fail
        go_ret
        exact ⟨ret_bool (by rw [HVV.out]), HGR.out⟩
      have d2 : (xo == 2) = false := beq_eq_false_iff_ne.2 h2
      by_cases h3 : xo = 3
      · have HV := HHT.out
        rw [if_neg h1, if_neg h2, if_pos h3] at HV
        have HVV := hid HV
        subst h3
        clear HV HHT h1 h2
        go_wp2_with fail
        go_ret
        exact ⟨ret_bool (by rw [HVV.out]), HGR.out⟩
      have d3 : (xo == 3) = false := beq_eq_false_iff_ne.2 h3
      by_cases h4 : xo = 4
      · have HV := HHT.out
        rw [if_neg h1, if_neg h2, if_neg h3, if_pos h4] at HV
        have HVV := hid HV
        subst h4
        clear HV HHT h1 h2 h3
        go_wp2_with fail
        go_ret
        exact ⟨ret_bool (by rw [HVV.out]), HGR.out⟩
      have d4 : (xo == 4) = false := beq_eq_false_iff_ne.2 h4
      by_cases h5 : xo = 5
      · have HV := HHT.out
        rw [if_neg h1, if_neg h2, if_neg h3, if_neg h4, if_pos h5] at HV
        have HVV := hid HV
        subst h5
        clear HV HHT h1 h2 h3 h4
        go_wp2_with fail
        go_ret
        exact ⟨ret_bool (by rw [HVV.out]), HGR.out⟩
      have d5 : (xo == 5) = false := beq_eq_false_iff_ne.2 h5
      by_cases h6 : xo = 6
      · have HV := HHT.out
        rw [if_neg h1, if_neg h2, if_neg h3, if_neg h4, if_neg h5, if_pos h6] at HV
        have HVV := hid HV
        subst h6
        clear HV HHT h1 h2 h3 h4 h5
        go_wp2_with fail
        go_ret
        exact ⟨ret_bool (by rw [HVV.out]), HGR.out⟩
      have d6 : (xo == 6) = false := beq_eq_false_iff_ne.2 h6
      by_cases h7 : xo = 7
      · have HV := HHT.out
        rw [if_neg h1, if_neg h2, if_neg h3, if_neg h4, if_neg h5, if_neg h6, if_pos h7] at HV
        have HVV := hid HV
        subst h7
        clear HV HHT h1 h2 h3 h4 h5 h6
        go_wp2_with fail
        go_ret
        exact ⟨ret_bool (by rw [HVV.out]; first | rfl | exact Z7.out), HGR.out⟩
      have d7 : (xo == 7) = false := beq_eq_false_iff_ne.2 h7
      have HV := HHT.out
      rw [if_neg h1, if_neg h2, if_neg h3, if_neg h4, if_neg h5, if_neg h6, if_neg h7] at HV
      have HVV := hid HV
      clear HV HHT h1 h2 h3 h4 h5 h6 h7
      go_wp2_with fail
      go_ret
      exact ⟨ret_bool HVV.out.symm, HGR.out⟩

set_option maxHeartbeats 2000000 in
set_option maxRecDepth 100000 in
theorem rmatch_any (u v : Value) (p : List Tm) (d : List Fx) (w : World) (hu : KM.Is w u p) (hp : FitM p) (hv : IsXs w v d) (hf : FitX d) :
    Calls Try.prog 73 #[u, v] w fun e w' => e = .returned (.bool (matchM p (d.map Fx.fld))) ∧ Grown w w' := by
  obtain ⟨q, cap, rfl, hd⟩ := hu
  have hl := hp.1
  unfold maxLen at hl
  have HD := hid hd
  have HP := hid hp.2
  have HHO : Hid (∀ x ∈ p, ∀ W, Below w.heap.size w W → Calls Try.prog 76 #[.agg #[.string x.1, .int .i64 x.2.1, .string x.2.2], v] W fun e w' => e = .returned (.bool (holdsM x (d.map Fx.fld))) ∧ Grown W w') := fun x hx W hW => rholds_any x v d W (hv.kept hW) hf (hp.2 x hx).2.1
  obtain ⟨r, hr⟩ : ∃ r, matchM p (d.map Fx.fld) = r := ⟨_, rfl⟩
  rw [hr]
  have HR := hid hr
  clear hd hp hr hv hf
  go_enter Try.func73, Try.ntmps73
  go_wp2_with fail
  go_loopg [5] p.length (fun g vi ws => ∃ i : Nat, vi = .int .i64 i ∧ i ≤ p.length ∧ p.length - i ≤ g ∧ Hid (∀ j, (h : j < p.length) → j < i → holdsM p[j] (d.map Fx.fld) = true) ∧ Hid (Grown w ws))
  case atStart => exact ⟨0, rfl, by omega, by omega, fun j _ h => by omega, Grown.refl _⟩
  case round =>
    obtain ⟨i, rfl, hi, hgk, HJ, HG⟩ := hrel
    by_cases hlt : i < p.length
    · have hltz : (i : Int) < (p.length : Int) := by omega
      have hiz : (0 : Int) ≤ (i : Int) := by omega
      obtain ⟨b, off, rfl, hat⟩ : ∃ b off, q = some ⟨b, off, none⟩ ∧ KM.At w b off p := by
        rcases HD.out with h | h
        · subst h; simp at hlt
        · exact h
      obtain ⟨c0, c1, c2⟩ := km_cells (Kind.at_kept hat HG.out.below) i hlt
      have HC := hid (HHO.out _ (List.getElem_mem hlt) wr HG.out.below)
      cases hh : holdsM p[i] (d.map Fx.fld) with
      | false =>
        have H0 : Hid (r = false) := by
          show _ = _
          rw [← HR.out]
          unfold matchM
          rw [List.all_eq_false]
          exact ⟨p[i], List.getElem_mem hlt, by rw [hh]; simp⟩
        rw [hh] at HC
        generalize p[i] = x at c0 c1 c2 HC
        clear hat hh
        go_wp2_with (first | (go_at_call 76; refine HC.out.mono ?_; rintro e w2 ⟨rfl, g2⟩))
        go_ret
        exact ⟨ret_bool H0.out.symm, HG.out.trans g2⟩
      | true =>
        have HJ2 : Hid (∀ j, (h : j < p.length) → j < i + 1 → holdsM p[j] (d.map Fx.fld) = true) := fun j h hj => by
          by_cases e : j = i
          · subst e; exact hh
          · exact HJ.out j h (by omega)
        rw [hh] at HC
        generalize p[i] = x at c0 c1 c2 HC
        clear hat hh
        go_wp2_with (first | (go_at_call 76; refine HC.out.mono ?_; rintro e w2 ⟨rfl, g2⟩))
        go_roundg (p.length - (i + 1))
        case measure => omega
        case rel => exact ⟨i + 1, by go_num, by omega, by omega, HJ2, HG.out.trans g2⟩
    · have hltz : ¬ (i : Int) < (p.length : Int) := by omega
      have H0 : Hid (r = true) := by
        show _ = _
        rw [← HR.out]
        unfold matchM
        rw [List.all_eq_true]
        intro x hx
        obtain ⟨j, hj, rfl⟩ := List.mem_iff_getElem.1 hx
        exact HJ.out j hj (by omega)
      go_wp2_with fail
      go_ret
      exact ⟨ret_bool H0.out.symm, HG.out⟩

end Go.Proofs.Ytmihddbnddgfhaa

/-
  Marks (stage 12): the plain mathematics of keys and ranges, and how they lie in memory. No function of the program.
-/
namespace Go.Proofs.Ytmihddbnddgfhaa
open Go.RowKit

/-- A range by what it says: its type, its terms. -/
abbrev Rg := ByteArray × List Tm
/-- Marks by what they say. -/
abbrev Mk := List Ky × List Rg
/-- A change by what it says. -/
structure Ch where
  key : Ky
  wl : Bool
  was : List Fld
  il : Bool
  is : List Fld

def putR (l : List Rg) (r : Rg) : List Rg := if l.any (fun x => decide (x = r)) = true then l else l ++ [r]
theorem any_mem {l : List Rg} {r : Rg} : l.any (fun x => decide (x = r)) = true ↔ r ∈ l := by
  rw [List.any_eq_true]
  constructor
  · rintro ⟨x, hx, h⟩
    rw [← of_decide_eq_true h]
    exact hx
  · exact fun h => ⟨r, h, by simp⟩
def keyM (m : Mk) (k : Ky) : Mk := (insR ltKy k (sortK m.1), m.2)
def rangeM (m : Mk) (r : Rg) : Mk := (m.1, putR m.2 r)
def unionM (a b : Mk) : Mk := (b.1.foldl (fun acc k => insR ltKy k acc) (sortK a.1), b.2.foldl putR (a.2.foldl putR []))
def touchesM (r : Rg) (c : Ch) : Bool := decide (r.1 = c.key.1) && ((c.wl && matchM r.2 c.was) || (c.il && matchM r.2 c.is))
def hitM (m : Mk) (c : Ch) : Bool := m.1.any (fun k => decide (k = c.key)) || m.2.any (fun r => touchesM r c)
def hitsM (m : Mk) (l : List Ch) : Bool := l.any (hitM m)
def whichM (m : Mk) (l : List Ch) : List Ky := l.foldl (fun acc c => if hitM m c then insR ltKy c.key acc else acc) []

theorem mem_putR {l : List Rg} {r z : Rg} : z ∈ putR l r ↔ z ∈ l ∨ z = r := by
  unfold putR
  split
  · rename_i h
    constructor
    · exact Or.inl
    · rintro (h' | rfl)
      · exact h'
      · exact any_mem.1 h
  · rw [List.mem_append, List.mem_singleton]
theorem nodup_putR {l : List Rg} {r : Rg} (h : l.Nodup) : (putR l r).Nodup := by
  unfold putR
  split
  · exact h
  · rename_i hn
    rw [List.nodup_append]
    refine ⟨h, by simp, fun a ha b hb e => ?_⟩
    rw [List.mem_singleton] at hb
    exact hn (any_mem.2 (hb ▸ e ▸ ha))
theorem putR_len (l : List Rg) (r : Rg) : (putR l r).length ≤ l.length + 1 := by
  unfold putR
  split <;> simp
theorem mem_putsR (b : List Rg) : ∀ (a : List Rg) (z : Rg), z ∈ b.foldl putR a ↔ z ∈ a ∨ z ∈ b := by
  induction b with
  | nil => intro a z; simp
  | cons r b ih =>
    intro a z
    rw [List.foldl_cons, ih, mem_putR, List.mem_cons, or_assoc]
theorem nodup_putsR (b : List Rg) : ∀ (a : List Rg), a.Nodup → (b.foldl putR a).Nodup := by
  induction b with
  | nil => intro a h; exact h
  | cons r b ih => intro a h; exact ih _ (nodup_putR h)
theorem putsR_len (b : List Rg) : ∀ (a : List Rg), (b.foldl putR a).length ≤ a.length + b.length := by
  induction b with
  | nil => intro a; simp
  | cons r b ih =>
    intro a
    have h1 := ih (putR a r)
    have h2 := putR_len a r
    simp only [List.foldl_cons, List.length_cons]
    omega

/-- Keys put one by one. -/
theorem inss_spec (b : List Ky) : ∀ (a : List Ky), RisingR ltKy a → RisingR ltKy (b.foldl (fun acc k => insR ltKy k acc) a) ∧ ∀ z, z ∈ b.foldl (fun acc k => insR ltKy k acc) a ↔ z ∈ a ∨ z ∈ b := by
  induction b with
  | nil => intro a h; exact ⟨h, fun z => by simp⟩
  | cons k b ih =>
    intro a h
    obtain ⟨h1, h2⟩ := ih (insR ltKy k a) (rising_insR totK k h)
    refine ⟨h1, fun z => ?_⟩
    rw [List.foldl_cons, h2, mem_insR, List.mem_cons]
    constructor
    · rintro ((h | h) | h)
      · exact Or.inr (Or.inl h)
      · exact Or.inl h
      · exact Or.inr (Or.inr h)
    · rintro (h | h | h)
      · exact Or.inl (Or.inr h)
      · exact Or.inl (Or.inl h)
      · exact Or.inr h

theorem insK_len (x : Ky) : ∀ l : List Ky, (insR ltKy x l).length ≤ l.length + 1
  | [] => by simp [insR]
  | y :: r => by
    unfold insR
    split
    · simp
    · split
      · simp
      · have := insK_len x r
        simp only [List.length_cons]
        omega
theorem inss_len (b : List Ky) : ∀ (a : List Ky), (b.foldl (fun acc k => insR ltKy k acc) a).length ≤ a.length + b.length := by
  induction b with
  | nil => intro a; simp
  | cons k b ih =>
    intro a
    have h1 := ih (insR ltKy k a)
    have h2 := insK_len k a
    simp only [List.foldl_cons, List.length_cons]
    omega

theorem hit_union (a b : Mk) (c : Ch) : hitM (unionM a b) c = (hitM a c || hitM b c) := by
  rw [Bool.eq_iff_iff, Bool.or_eq_true]
  unfold hitM unionM
  simp only [Bool.or_eq_true, List.any_eq_true, decide_eq_true_eq]
  have h1 := (inss_spec b.1 (sortK a.1) (sortK_spec a.1).1).2
  constructor
  · rintro (⟨x, hx, rfl⟩ | ⟨x, hx, h⟩)
    · rw [h1, (sortK_spec a.1).2] at hx
      rcases hx with hx | hx
      · exact Or.inl (Or.inl ⟨_, hx, rfl⟩)
      · exact Or.inr (Or.inl ⟨_, hx, rfl⟩)
    · rw [mem_putsR, mem_putsR] at hx
      rcases hx with (hx | hx) | hx
      · simp at hx
      · exact Or.inl (Or.inr ⟨x, hx, h⟩)
      · exact Or.inr (Or.inr ⟨x, hx, h⟩)
  · rintro ((⟨x, hx, rfl⟩ | ⟨x, hx, h⟩) | (⟨x, hx, rfl⟩ | ⟨x, hx, h⟩))
    · exact Or.inl ⟨_, (h1 _).2 (Or.inl ((sortK_spec a.1).2 _ |>.2 hx)), rfl⟩
    · exact Or.inr ⟨x, (mem_putsR _ _ _).2 (Or.inl ((mem_putsR _ _ _).2 (Or.inr hx))), h⟩
    · exact Or.inl ⟨_, (h1 _).2 (Or.inr hx), rfl⟩
    · exact Or.inr ⟨x, (mem_putsR _ _ _).2 (Or.inr hx), h⟩

theorem hit_key (a : Mk) (c : Ch) : hitM (keyM a c.key) c = true := by
  unfold hitM keyM
  rw [Bool.or_eq_true]
  left
  rw [List.any_eq_true]
  exact ⟨c.key, (mem_insR _ _ _ _).2 (Or.inl rfl), by simp⟩

theorem which_spec (m : Mk) (l : List Ch) : ∀ (a : List Ky), RisingR ltKy a → RisingR ltKy (l.foldl (fun acc c => if hitM m c then insR ltKy c.key acc else acc) a) ∧ ∀ z, z ∈ l.foldl (fun acc c => if hitM m c then insR ltKy c.key acc else acc) a ↔ z ∈ a ∨ ∃ c ∈ l, hitM m c = true ∧ c.key = z := by
  induction l with
  | nil => intro a h; exact ⟨h, fun z => by simp⟩
  | cons c l ih =>
    intro a h
    rw [List.foldl_cons]
    by_cases hc : hitM m c = true
    · rw [if_pos hc]
      obtain ⟨h1, h2⟩ := ih (insR ltKy c.key a) (rising_insR totK c.key h)
      refine ⟨h1, fun z => ?_⟩
      rw [h2, mem_insR]
      constructor
      · rintro ((h | h) | ⟨d, hd, h⟩)
        · exact Or.inr ⟨c, List.mem_cons_self, hc, h.symm⟩
        · exact Or.inl h
        · exact Or.inr ⟨d, List.mem_cons_of_mem _ hd, h⟩
      · rintro (h | ⟨d, hd, h3, h4⟩)
        · exact Or.inl (Or.inr h)
        · rcases List.mem_cons.1 hd with rfl | hd
          · exact Or.inl (Or.inl h4.symm)
          · exact Or.inr ⟨d, hd, h3, h4⟩
    · rw [if_neg hc]
      obtain ⟨h1, h2⟩ := ih a h
      refine ⟨h1, fun z => ?_⟩
      rw [h2]
      constructor
      · rintro (h | ⟨d, hd, h⟩)
        · exact Or.inl h
        · exact Or.inr ⟨d, List.mem_cons_of_mem _ hd, h⟩
      · rintro (h | ⟨d, hd, h3, h4⟩)
        · exact Or.inl h
        · rcases List.mem_cons.1 hd with rfl | hd
          · exact absurd h3 hc
          · exact Or.inr ⟨d, hd, h3, h4⟩

theorem hits_which (m : Mk) (l : List Ch) : hitsM m l = decide (0 < (whichM m l).length) := by
  rw [Bool.eq_iff_iff, decide_eq_true_eq, List.length_pos_iff_exists_mem]
  have h := (which_spec m l [] List.Pairwise.nil).2
  unfold hitsM whichM
  rw [List.any_eq_true]
  constructor
  · rintro ⟨c, hc, h1⟩
    exact ⟨c.key, (h _).2 (Or.inr ⟨c, hc, h1, rfl⟩)⟩
  · rintro ⟨z, hz⟩
    rcases (h z).1 hz with h1 | ⟨c, hc, h1, _⟩
    · simp at h1
    · exact ⟨c, hc, h1⟩

/-! ## In memory -/

/-- A range in memory. -/
structure Rx where
  typ : ByteArray
  p : Option Addr
  cap : Nat
  tm : List Tm
  deriving Inhabited
def Rx.sl (x : Rx) : Value := .slice x.p x.tm.length x.cap
def Rx.rg (x : Rx) : Rg := (x.typ, x.tm)
def encRx (x : Rx) : List Value := [.string x.typ, x.sl]
def KRx : Kind Rx := ⟨85, 2, encRx, fun _ => rfl, by decide, fun x u hu => by simp [encRx, Rx.sl] at hu; rcases hu with rfl | rfl <;> rfl⟩
/-- Terms that a machine can hold, and copy. -/
def FitP (p : List Tm) : Prop := FitM p ∧ p.length * 40 ≤ 140737488355328
theorem fitP_nil : FitP [] := ⟨⟨by unfold maxLen; simp, fun x hx => by cases hx⟩, by simp⟩
def Rx.at (W : World) (x : Rx) : Prop := KM.Is W x.sl x.tm ∧ FitP x.tm
theorem Rx.at.on {W W' : World} {x : Rx} (h : x.at W) (hb : Below W.heap.size W W') : x.at W' := ⟨Kind.is_kept h.1 hb, h.2⟩
theorem krx_at {w : World} {b off : Nat} {d : List Rx} (h : KRx.At w b off d) (i : Nat) (hi : i < d.length) : w.cell? ⟨b, off + i * 2, none⟩ = some (.string (d[i]).typ) ∧ w.cell? ⟨b, off + i * 2 + 1, none⟩ = some (d[i]).sl := ⟨h i hi 0 _ rfl, h i hi 1 _ rfl⟩

/-- Marks in memory. -/
structure Mx where
  kp : Option Addr
  kc : Nat
  ks : List Ky
  rp : Option Addr
  rc : Nat
  rs : List Rx
  deriving Inhabited
def Mx.ksl (m : Mx) : Value := .slice m.kp m.ks.length m.kc
def Mx.rsl (m : Mx) : Value := .slice m.rp m.rs.length m.rc
def Mx.mk' (m : Mx) : Mk := (m.ks, m.rs.map Rx.rg)
def encMx (m : Mx) : List Value := [m.ksl, m.rsl]
structure MIn (W : World) (m : Mx) : Prop where
  keys : KK.Is W m.ksl m.ks
  rows : KRx.Is W m.rsl m.rs
  each : ∀ r ∈ m.rs, r.at W
theorem MIn.on {W W' : World} {m : Mx} (h : MIn W m) (hb : Below W.heap.size W W') : MIn W' m := ⟨Kind.is_kept h.keys hb, Kind.is_kept h.rows hb, fun r hr => (h.each r hr).on hb⟩

/-- A change in memory. -/
structure Cx where
  a : ByteArray
  b : ByteArray
  wl : Bool
  wp : Option Addr
  wc : Nat
  wo : List Fx
  il : Bool
  ip : Option Addr
  ic : Nat
  io : List Fx
  deriving Inhabited
def Cx.ch (x : Cx) : Ch := ⟨(x.a, x.b), x.wl, x.wo.map Fx.fld, x.il, x.io.map Fx.fld⟩
def encCx (x : Cx) : List Value := [.string x.a, .string x.b, .bool x.wl, .slice x.wp x.wo.length x.wc, .bool x.il, .slice x.ip x.io.length x.ic]
def KCx : Kind Cx := ⟨70, 6, encCx, fun _ => rfl, by decide, fun x u hu => by simp [encCx] at hu; rcases hu with rfl | rfl | rfl | rfl | rfl | rfl <;> rfl⟩
structure CIn (W : World) (x : Cx) : Prop where
  was : IsXs W (.slice x.wp x.wo.length x.wc) x.wo
  wfit : FitX x.wo
  is : IsXs W (.slice x.ip x.io.length x.ic) x.io
  ifit : FitX x.io
  wcp : CopyX x.wo
  icp : CopyX x.io
theorem CIn.on {W W' : World} {x : Cx} (h : CIn W x) (hb : Below W.heap.size W W') : CIn W' x := ⟨h.was.kept hb, h.wfit, h.is.kept hb, h.ifit, h.wcp, h.icp⟩
theorem kcx_at {w : World} {b off : Nat} {d : List Cx} (h : KCx.At w b off d) (i : Nat) (hi : i < d.length) : w.cell? ⟨b, off + i * 6, none⟩ = some (.string (d[i]).a) ∧ w.cell? ⟨b, off + i * 6 + 1, none⟩ = some (.string (d[i]).b) ∧ w.cell? ⟨b, off + i * 6 + 2, none⟩ = some (.bool (d[i]).wl) ∧ w.cell? ⟨b, off + i * 6 + 3, none⟩ = some (.slice (d[i]).wp (d[i]).wo.length (d[i]).wc) ∧ w.cell? ⟨b, off + i * 6 + 4, none⟩ = some (.bool (d[i]).il) ∧ w.cell? ⟨b, off + i * 6 + 5, none⟩ = some (.slice (d[i]).ip (d[i]).io.length (d[i]).ic) :=
  ⟨h i hi 0 _ rfl, h i hi 1 _ rfl, h i hi 2 _ rfl, h i hi 3 _ rfl, h i hi 4 _ rfl, h i hi 5 _ rfl⟩

end Go.Proofs.Ytmihddbnddgfhaa

/-
  Done transactions and the tracker that keeps them (stage 13), without the program: what clashes; what is kept, let go and dropped; and why those that were checked can be put in an order.
-/
namespace Go.Proofs.Ytmihddbnddgfhaa
open Go.RowKit

/-- A done transaction, by what it says. -/
structure Dn where
  snap : Int
  stamp : Int
  out : Bool
  marks : Mk
  chg : List Ch

/-- A tracker: how many it may keep; those that it keeps, as they were added; the stamp that was added last; the summary. -/
structure Tk where
  most : Nat
  kept : List Dn
  last : Option Int
  sum : Int

def roomT (most : Int) : Nat := (min (max most 0) 64).toNat
def newT (most : Int) : Tk := ⟨roomT most, [], none, 0⟩
def besideT (s : Int) (d : Dn) : Bool := decide (s < d.stamp)
def outT (l : List Dn) (s : Int) (m : Mk) : Bool := l.any fun d => besideT s d && hitsM m d.chg
def deepT (l : List Dn) (s : Int) (m : Mk) : Bool := l.any fun d => besideT s d && (hitsM m d.chg && d.out)
def inT (l : List Dn) (s : Int) (c : List Ch) : Bool := l.any fun d => besideT s d && hitsM d.marks c
def clashT (t : Tk) (s : Int) (m : Mk) (c : List Ch) : Bool := decide (s < t.sum) || deepT t.kept s m || (outT t.kept s m && inT t.kept s c)
/-- What Check answers. -/
def checkT (t : Tk) (s : Int) (m : Mk) (c : List Ch) : Bool × Int := if clashT t s m c then (false, 11) else (outT t.kept s m, 0)

def oldT (t : Tk) (d : Dn) : Bool := match t.last with | some s => decide (d.stamp < s) | none => false
def keepT (t : Tk) (d : Dn) : Tk :=
  if t.kept.length < t.most then ⟨t.most, t.kept ++ [d], some d.stamp, t.sum⟩
  else match t.kept with
    | [] => ⟨t.most, [], some d.stamp, max t.sum d.stamp⟩
    | x :: r => ⟨t.most, r ++ [d], some d.stamp, max t.sum x.stamp⟩
/-- What Add answers, and leaves. -/
def addT (t : Tk) (d : Dn) : Int × Tk := if oldT t d then (8, t) else (0, keepT t d)
def dropT (t : Tk) (least : Int) : Tk := { t with kept := t.kept.filter fun d => decide (least < d.stamp) }

/-! ## What is so along every run -/

structure OkT (t : Tk) : Prop where
  few : t.kept.length ≤ t.most
  rise : t.kept.Pairwise fun a b => a.stamp ≤ b.stamp
  top : ∀ d ∈ t.kept, ∃ s, t.last = some s ∧ d.stamp ≤ s
  low : ∀ d ∈ t.kept, t.sum ≤ d.stamp
  sum : 0 ≤ t.sum ∧ (t.sum = 0 ∨ ∃ s, t.last = some s ∧ t.sum ≤ s)

theorem ok_newT (most : Int) : OkT (newT most) := ⟨Nat.zero_le _, List.Pairwise.nil, fun d hd => by simp [newT] at hd, fun d hd => by simp [newT] at hd, Int.le_refl _, Or.inl rfl⟩

theorem keepT_last (t : Tk) (d : Dn) : (keepT t d).last = some d.stamp := by
  unfold keepT
  split
  · rfl
  · split <;> rfl
theorem keepT_most (t : Tk) (d : Dn) : (keepT t d).most = t.most := by
  unfold keepT
  split
  · rfl
  · split <;> rfl
theorem keepT_sum (t : Tk) (d : Dn) : t.sum ≤ (keepT t d).sum := by
  unfold keepT
  split
  · exact Int.le_refl _
  · split
    · show t.sum ≤ max t.sum d.stamp; omega
    · next x _ _ => show t.sum ≤ max t.sum x.stamp; omega

theorem old_not {t : Tk} {d : Dn} (h : oldT t d = false) {s : Int} (hs : t.last = some s) : s ≤ d.stamp := by
  unfold oldT at h
  rw [hs] at h
  have := of_decide_eq_false h
  omega

theorem ok_keepT {t : Tk} (h : OkT t) {d : Dn} (hd : oldT t d = false) (h0 : 0 ≤ d.stamp) : OkT (keepT t d) := by
  have hup : ∀ x ∈ t.kept, x.stamp ≤ d.stamp := fun x hx => by
    obtain ⟨s, hs, hle⟩ := h.top x hx
    have := old_not hd hs
    omega
  have hsum : t.sum ≤ d.stamp := by
    rcases h.sum.2 with e | ⟨s, hs, hle⟩
    · omega
    · have := old_not hd hs
      omega
  refine ⟨?_, ?_, fun x hx => ⟨d.stamp, keepT_last t d, ?_⟩, fun x hx => ?_, ?_⟩
  · rw [keepT_most]
    have := h.few
    unfold keepT
    split
    · show (t.kept ++ [d]).length ≤ _; rw [List.length_append, List.length_singleton]; omega
    · split
      · exact Nat.zero_le _
      · next x r hk => rw [hk] at this; show (r ++ [d]).length ≤ _; rw [List.length_append, List.length_singleton]; exact this
  · unfold keepT
    split
    · exact List.pairwise_append.2 ⟨h.rise, List.pairwise_singleton _ _, fun a ha b hb => by rw [List.mem_singleton.1 hb]; exact hup a ha⟩
    · split
      · exact List.Pairwise.nil
      · next x r hk =>
        have hr := h.rise
        rw [hk] at hr
        refine List.pairwise_append.2 ⟨(List.pairwise_cons.1 hr).2, List.pairwise_singleton _ _, fun a ha b hb => ?_⟩
        rw [List.mem_singleton.1 hb]
        exact hup a (by rw [hk]; exact List.mem_cons_of_mem _ ha)
  · unfold keepT at hx
    split at hx
    · rcases List.mem_append.1 hx with hx | hx
      · exact hup x hx
      · rw [List.mem_singleton.1 hx]; exact Int.le_refl _
    · split at hx
      · simp at hx
      · next y r hk =>
        rcases List.mem_append.1 hx with hx | hx
        · exact hup x (by rw [hk]; exact List.mem_cons_of_mem _ hx)
        · rw [List.mem_singleton.1 hx]; exact Int.le_refl _
  · unfold keepT at hx ⊢
    split
    · next hc =>
      rw [if_pos hc] at hx
      rcases List.mem_append.1 hx with hx | hx
      · exact h.low x hx
      · rw [List.mem_singleton.1 hx]; exact hsum
    · next hc =>
      rw [if_neg hc] at hx
      split
      · next hk => rw [hk] at hx; simp at hx
      · next y r hk =>
        rw [hk] at hx
        show max t.sum y.stamp ≤ x.stamp
        have hy := hup y (by rw [hk]; exact List.mem_cons_self)
        rcases List.mem_append.1 hx with hx | hx
        · have h1 := h.low x (by rw [hk]; exact List.mem_cons_of_mem _ hx)
          have hr := h.rise
          rw [hk] at hr
          have h2 := (List.pairwise_cons.1 hr).1 x hx
          omega
        · rw [List.mem_singleton.1 hx]; omega
  · have h1 := h.sum.1
    have h2 := keepT_sum t d
    refine ⟨by omega, Or.inr ⟨d.stamp, keepT_last t d, ?_⟩⟩
    unfold keepT
    split
    · exact hsum
    · split
      · show max t.sum d.stamp ≤ d.stamp; omega
      · next x r hk =>
        have := hup x (by rw [hk]; exact List.mem_cons_self)
        show max t.sum x.stamp ≤ d.stamp; omega

theorem ok_addT {t : Tk} (h : OkT t) (d : Dn) (h0 : 0 ≤ d.stamp) : OkT (addT t d).2 := by
  unfold addT
  cases e : oldT t d with
  | true => exact h
  | false => exact ok_keepT h e h0
theorem ok_dropT {t : Tk} (h : OkT t) (least : Int) : OkT (dropT t least) :=
  ⟨Nat.le_trans (List.length_filter_le _ _) h.few, h.rise.sublist List.filter_sublist, fun d hd => h.top d (List.mem_filter.1 hd).1, fun d hd => h.low d (List.mem_filter.1 hd).1, h.sum⟩

/-! ## P13.2 -/

theorem out_false {l : List Dn} {s : Int} {m : Mk} (h : ∀ d ∈ l, d.stamp ≤ s) : outT l s m = false ∧ deepT l s m = false := by
  have hb : ∀ d ∈ l, besideT s d = false := fun d hd => decide_eq_false (by have := h d hd; omega)
  refine ⟨List.any_eq_false.2 fun d hd => ?_, List.any_eq_false.2 fun d hd => ?_⟩
  · rw [hb d hd]; simp
  · rw [hb d hd]; simp

/-- Who is alone never clashes. -/
theorem alone_ok {t : Tk} (h : OkT t) {s : Int} (hs : ∀ x, t.last = some x → x ≤ s) (h0 : 0 ≤ s) (m : Mk) (c : List Ch) : checkT t s m c = (false, 0) := by
  have hk : ∀ d ∈ t.kept, d.stamp ≤ s := fun d hd => by
    obtain ⟨x, hx, hle⟩ := h.top d hd
    have := hs x hx
    omega
  have hsum : ¬ s < t.sum := by
    rcases h.sum.2 with e | ⟨x, hx, hle⟩
    · omega
    · have := hs x hx
      omega
  obtain ⟨h1, h2⟩ := out_false (m := m) hk
  unfold checkT clashT
  rw [h1, h2, decide_eq_false hsum]
  rfl

/-! ## P13.3: what is dropped is not seen -/

theorem any_filter_beside {l : List Dn} {s least : Int} (h : least ≤ s) (f : Dn → Bool) : (l.filter fun d => decide (least < d.stamp)).any (fun d => besideT s d && f d) = l.any fun d => besideT s d && f d := by
  rw [List.any_filter]
  congr 1
  funext d
  unfold besideT
  by_cases h1 : s < d.stamp
  · rw [decide_eq_true h1, decide_eq_true (show least < d.stamp by omega)]; simp
  · rw [decide_eq_false h1]; simp
theorem drop_check (t : Tk) {s least : Int} (h : least ≤ s) (m : Mk) (c : List Ch) : checkT (dropT t least) s m c = checkT t s m c := by
  have e1 : outT (dropT t least).kept s m = outT t.kept s m := any_filter_beside h fun d => hitsM m d.chg
  have e2 : deepT (dropT t least).kept s m = deepT t.kept s m := any_filter_beside h fun d => hitsM m d.chg && d.out
  have e3 : inT (dropT t least).kept s c = inT t.kept s c := any_filter_beside h fun d => hitsM d.marks c
  unfold checkT clashT
  rw [e1, e2, e3]
  rfl
theorem drop_twice (t : Tk) (least : Int) : dropT (dropT t least) least = dropT t least := by
  unfold dropT
  simp [List.filter_filter]

end Go.Proofs.Ytmihddbnddgfhaa

/-
  The tracker (stage 13), without the program: one that keeps fewer refuses whatever one that keeps more refuses; and those that were checked one after the other can be put in an order.
-/
namespace Go.Proofs.Ytmihddbnddgfhaa
open Go.RowKit

/-! ## P13.3: less is stricter -/

/-- f keeps the last of those that a keeps, and its summary covers the rest. -/
structure LessT (f a : Tk) : Prop where
  pre : ∃ p, a.kept = p ++ f.kept ∧ ∀ d ∈ p, d.stamp ≤ f.sum
  sum : a.sum ≤ f.sum
  last : a.last = f.last
  most : f.most ≤ a.most

theorem less_new {x y : Int} (h : roomT x ≤ roomT y) : LessT (newT x) (newT y) := ⟨⟨[], rfl, fun d hd => by simp at hd⟩, Int.le_refl _, rfl, h⟩

theorem less_keep {f a : Tk} (h : LessT f a) (d : Dn) : LessT (keepT f d) (keepT a d) := by
  obtain ⟨p, hp, hpl⟩ := h.pre
  have hs := h.sum
  have hm := h.most
  refine ⟨?_, ?_, by rw [keepT_last, keepT_last], by rw [keepT_most, keepT_most]; exact hm⟩
  · unfold keepT
    by_cases ca : a.kept.length < a.most
    · rw [if_pos ca]
      by_cases cf : f.kept.length < f.most
      · rw [if_pos cf]
        exact ⟨p, by show a.kept ++ [d] = p ++ (f.kept ++ [d]); rw [hp, List.append_assoc], hpl⟩
      · rw [if_neg cf]
        cases hk : f.kept with
        | nil =>
          refine ⟨p ++ [d], by show a.kept ++ [d] = (p ++ [d]) ++ []; rw [hp, hk]; simp, fun x hx => ?_⟩
          show x.stamp ≤ max f.sum d.stamp
          rcases List.mem_append.1 hx with hx | hx
          · have := hpl x hx; omega
          · rw [List.mem_singleton.1 hx]; omega
        | cons y r =>
          refine ⟨p ++ [y], by show a.kept ++ [d] = (p ++ [y]) ++ (r ++ [d]); rw [hp, hk]; simp, fun x hx => ?_⟩
          show x.stamp ≤ max f.sum y.stamp
          rcases List.mem_append.1 hx with hx | hx
          · have := hpl x hx; omega
          · rw [List.mem_singleton.1 hx]; omega
    · rw [if_neg ca]
      by_cases cf : f.kept.length < f.most
      · rw [if_pos cf]
        cases p with
        | nil =>
          have : a.kept.length = f.kept.length := by rw [hp]; rfl
          omega
        | cons y p2 =>
          rw [hp]
          exact ⟨p2, by show (p2 ++ f.kept) ++ [d] = p2 ++ (f.kept ++ [d]); simp, fun x hx => hpl x (List.mem_cons_of_mem _ hx)⟩
      · rw [if_neg cf]
        cases hk : f.kept with
        | nil =>
          rw [hk, List.append_nil] at hp
          rw [hp]
          cases p with
          | nil => exact ⟨[], rfl, fun x hx => by simp at hx⟩
          | cons y p2 =>
            refine ⟨p2 ++ [d], by show p2 ++ [d] = (p2 ++ [d]) ++ []; simp, fun x hx => ?_⟩
            show x.stamp ≤ max f.sum d.stamp
            rcases List.mem_append.1 hx with hx | hx
            · have := hpl x (List.mem_cons_of_mem _ hx); omega
            · rw [List.mem_singleton.1 hx]; omega
        | cons z r =>
          rw [hk] at hp
          rw [hp]
          cases p with
          | nil => exact ⟨[], rfl, fun x hx => by simp at hx⟩
          | cons y p2 =>
            refine ⟨p2 ++ [z], by show (p2 ++ z :: r) ++ [d] = (p2 ++ [z]) ++ (r ++ [d]); simp, fun x hx => ?_⟩
            show x.stamp ≤ max f.sum z.stamp
            rcases List.mem_append.1 hx with hx | hx
            · have := hpl x (List.mem_cons_of_mem _ hx); omega
            · rw [List.mem_singleton.1 hx]; omega
  · unfold keepT
    by_cases ca : a.kept.length < a.most
    · rw [if_pos ca]
      have := keepT_sum f d
      unfold keepT at this
      show a.sum ≤ _
      omega
    · rw [if_neg ca]
      by_cases cf : f.kept.length < f.most
      · rw [if_pos cf]
        cases p with
        | nil =>
          have : a.kept.length = f.kept.length := by rw [hp]; rfl
          omega
        | cons y p2 =>
          rw [hp]
          show max a.sum y.stamp ≤ f.sum
          have := hpl y List.mem_cons_self
          omega
      · rw [if_neg cf]
        cases hk : f.kept with
        | nil =>
          rw [hk, List.append_nil] at hp
          rw [hp]
          cases p with
          | nil => show max a.sum d.stamp ≤ max f.sum d.stamp; omega
          | cons y p2 =>
            show max a.sum y.stamp ≤ max f.sum d.stamp
            have := hpl y List.mem_cons_self
            omega
        | cons z r =>
          rw [hk] at hp
          rw [hp]
          cases p with
          | nil => show max a.sum z.stamp ≤ max f.sum z.stamp; omega
          | cons y p2 =>
            show max a.sum y.stamp ≤ max f.sum z.stamp
            have := hpl y List.mem_cons_self
            omega

theorem less_add {f a : Tk} (h : LessT f a) (d : Dn) : LessT (addT f d).2 (addT a d).2 ∧ (addT f d).1 = (addT a d).1 := by
  have e : oldT f d = oldT a d := by unfold oldT; rw [h.last]
  unfold addT
  rw [e]
  cases oldT a d with
  | true => exact ⟨h, rfl⟩
  | false => exact ⟨less_keep h d, rfl⟩

theorem less_clash {f a : Tk} (h : LessT f a) {s : Int} {m : Mk} {c : List Ch} (hc : clashT a s m c = true) : clashT f s m c = true := by
  by_cases hs : s < f.sum
  · unfold clashT
    rw [decide_eq_true hs]
    rfl
  · obtain ⟨p, hp, hpl⟩ := h.pre
    have hany : ∀ g : Dn → Bool, (a.kept.any fun d => besideT s d && g d) = f.kept.any fun d => besideT s d && g d := fun g => by
      rw [hp, List.any_append]
      have : (p.any fun d => besideT s d && g d) = false := List.any_eq_false.2 fun d hd => by
        have : besideT s d = false := decide_eq_false (by have := hpl d hd; omega)
        rw [this]
        simp
      rw [this, Bool.false_or]
    have ha : ¬ s < a.sum := by have := h.sum; omega
    unfold clashT at hc ⊢
    rw [decide_eq_false ha] at hc
    rw [decide_eq_false hs]
    have e1 : outT a.kept s m = outT f.kept s m := hany fun d => hitsM m d.chg
    have e2 : deepT a.kept s m = deepT f.kept s m := hany fun d => hitsM m d.chg && d.out
    have e3 : inT a.kept s c = inT f.kept s c := hany fun d => hitsM d.marks c
    rw [e1, e2, e3] at hc
    exact hc

/-! ## P13.4: those that were checked can be put in an order -/

/-- What the checks have told of the one at j. -/
structure SawT (l : List Dn) (d : Dn) : Prop where
  at' : ∀ x ∈ l, d.snap < x.stamp → hitsM d.marks x.chg = true → d.out = true ∧ x.out = false
  by' : d.out = true → ∀ x ∈ l, d.snap < x.stamp → hitsM x.marks d.chg = false
  lt : d.out = true → d.snap < d.stamp
  le : ∀ x ∈ l, x.stamp ≤ d.stamp

/-- Done ones that were added one after the other, each checked ahead. -/
structure SerT (t : Tk) (l : List Dn) : Prop where
  ok : OkT t
  pre : ∃ p, l = p ++ t.kept ∧ ∀ d ∈ p, d.stamp ≤ t.sum
  saw : ∀ j (h : j < l.length), SawT (l.take j) l[j]
  all : ∀ d ∈ l, ∃ s, t.last = some s ∧ d.stamp ≤ s

theorem ser_new (most : Int) : SerT (newT most) [] := ⟨ok_newT most, ⟨[], rfl, fun d hd => by simp at hd⟩, fun j h => by simp at h, fun d hd => by simp at hd⟩

theorem keep_pre {t : Tk} {l p : List Dn} (hp : l = p ++ t.kept) (hpl : ∀ d ∈ p, d.stamp ≤ t.sum) (d : Dn) : ∃ p', l ++ [d] = p' ++ (keepT t d).kept ∧ ∀ x ∈ p', x.stamp ≤ (keepT t d).sum := by
  unfold keepT
  by_cases c : t.kept.length < t.most
  · rw [if_pos c]
    exact ⟨p, by show l ++ [d] = p ++ (t.kept ++ [d]); rw [hp]; simp, hpl⟩
  · rw [if_neg c]
    cases hk : t.kept with
    | nil =>
      refine ⟨p ++ [d], by show l ++ [d] = (p ++ [d]) ++ []; rw [hp, hk]; simp, fun x hx => ?_⟩
      show x.stamp ≤ max t.sum d.stamp
      rcases List.mem_append.1 hx with hx | hx
      · have := hpl x hx; omega
      · rw [List.mem_singleton.1 hx]; omega
    | cons y r =>
      refine ⟨p ++ [y], by show l ++ [d] = (p ++ [y]) ++ (r ++ [d]); rw [hp, hk]; simp, fun x hx => ?_⟩
      show x.stamp ≤ max t.sum y.stamp
      rcases List.mem_append.1 hx with hx | hx
      · have := hpl x hx; omega
      · rw [List.mem_singleton.1 hx]; omega

/-- One more: it was checked with its own marks and changes, and is added with the Out that was told. -/
theorem ser_add {t : Tk} {l : List Dn} (h : SerT t l) (d : Dn) (hc : clashT t d.snap d.marks d.chg = false) (ho : d.out = outT t.kept d.snap d.marks) (hold : oldT t d = false) (h0 : 0 ≤ d.stamp) : SerT (keepT t d) (l ++ [d]) := by
  obtain ⟨p, hp, hpl⟩ := h.pre
  unfold clashT at hc
  rw [Bool.or_eq_false_iff, Bool.or_eq_false_iff] at hc
  obtain ⟨⟨c1, c2⟩, c3⟩ := hc
  have hsum : t.sum ≤ d.snap := by have := of_decide_eq_false c1; omega
  have hin : ∀ x ∈ l, d.snap < x.stamp → x ∈ t.kept := fun x hx hlt => by
    rw [hp] at hx
    rcases List.mem_append.1 hx with hx | hx
    · have := hpl x hx; omega
    · exact hx
  have hle : ∀ x ∈ l, x.stamp ≤ d.stamp := fun x hx => by
    obtain ⟨s, hs, h1⟩ := h.all x hx
    have := old_not hold hs
    omega
  have hsaw : SawT l d := by
    refine ⟨fun x hx hlt hh => ?_, fun hod x hx hlt => ?_, fun hod => ?_, hle⟩
    · have hk := hin x hx hlt
      have hb : besideT d.snap x = true := decide_eq_true hlt
      refine ⟨?_, ?_⟩
      · rw [ho]
        exact List.any_eq_true.2 ⟨x, hk, by rw [hb, hh]; rfl⟩
      · have := List.any_eq_false.1 c2 x hk
        rw [hb, hh] at this
        simpa using this
    · have hk := hin x hx hlt
      have hb : besideT d.snap x = true := decide_eq_true hlt
      rw [ho] at hod
      rw [hod, Bool.true_and] at c3
      have := List.any_eq_false.1 c3 x hk
      rw [hb] at this
      simpa using this
    · rw [ho] at hod
      obtain ⟨x, hx, hh⟩ := List.any_eq_true.1 hod
      rw [Bool.and_eq_true] at hh
      have h1 : d.snap < x.stamp := of_decide_eq_true hh.1
      have h2 := hle x (by rw [hp]; exact List.mem_append.2 (Or.inr hx))
      omega
  refine ⟨ok_keepT h.ok hold h0, keep_pre hp hpl d, fun j hj => ?_, fun x hx => ⟨d.stamp, keepT_last t d, ?_⟩⟩
  · by_cases e : j < l.length
    · rw [List.take_append_of_le_length (by omega), List.getElem_append_left e]
      exact h.saw j e
    · rw [List.length_append, List.length_singleton] at hj
      have ej : j = l.length := by omega
      subst ej
      rw [List.take_append_of_le_length (Nat.le_refl _), List.take_length]
      simpa using hsaw
  · rcases List.mem_append.1 hx with hx | hx
    · exact hle x hx
    · rw [List.mem_singleton.1 hx]; exact Int.le_refl _

/-- Must the one at i stand ahead of the one at j? -/
def aheadT (l : List Dn) (i j : Nat) : Bool :=
  match l[i]?, l[j]? with
  | some a, some b => if i < j then decide (a.stamp ≤ b.snap) || hitsM a.marks b.chg else decide (a.snap < b.stamp) && hitsM a.marks b.chg
  | _, _ => false

/-- By what they are put in order. -/
def rankT (l : List Dn) (i : Nat) : Int × Nat := match l[i]? with
  | some d => if d.out then (d.snap, 1) else (d.stamp, 0)
  | none => (0, 0)
def lexT (a b : Int × Nat) (i j : Nat) : Prop := a.1 < b.1 ∨ (a.1 = b.1 ∧ (a.2 < b.2 ∨ (a.2 = b.2 ∧ i < j)))

theorem ahead_lex {t : Tk} {l : List Dn} (h : SerT t l) {i j : Nat} (hi : i < l.length) (hj : j < l.length) (hij : i ≠ j) (ha : aheadT l i j = true) : lexT (rankT l i) (rankT l j) i j := by
  have si := h.saw i hi
  have sj := h.saw j hj
  unfold aheadT at ha
  unfold rankT
  rw [List.getElem?_eq_getElem hi, List.getElem?_eq_getElem hj] at ha ⊢
  have mem : ∀ {a b : Nat} (hb : b < l.length) (hab : a < b), l[a]'(by omega) ∈ l.take b := fun {a b} hb hab => by
    rw [List.mem_take_iff_getElem]
    exact ⟨a, by omega, rfl⟩
  simp only at ha ⊢
  by_cases c : i < j
  · rw [if_pos c, Bool.or_eq_true, decide_eq_true_eq] at ha
    have hm := mem hj c
    have hle := sj.le _ hm
    cases oj : (l[j]).out with
    | true =>
      -- the earlier one was seen
      have hseen : (l[i]).stamp ≤ (l[j]).snap := by
        rcases ha with ha | ha
        · exact ha
        · rcases Int.lt_or_le (l[j]).snap (l[i]).stamp with hlt | hlt
          · have := sj.by' oj _ hm hlt
            rw [this] at ha
            cases ha
          · exact hlt
      cases oi : (l[i]).out with
      | true =>
        have := si.lt oi
        left
        show (l[i]).snap < (l[j]).snap
        omega
      | false =>
        rcases Int.lt_or_le (l[i]).stamp (l[j]).snap with hlt | hlt
        · left; exact hlt
        · right; exact ⟨by show (l[i]).stamp = (l[j]).snap; omega, Or.inl (show (0 : Nat) < 1 from Nat.zero_lt_one)⟩
    | false =>
      cases oi : (l[i]).out with
      | true =>
        have := si.lt oi
        left
        show (l[i]).snap < (l[j]).stamp
        omega
      | false =>
        rcases Int.lt_or_le (l[i]).stamp (l[j]).stamp with hlt | hlt
        · left; exact hlt
        · right; exact ⟨by show (l[i]).stamp = (l[j]).stamp; omega, Or.inr ⟨rfl, c⟩⟩
  · rw [if_neg c, Bool.and_eq_true, decide_eq_true_eq] at ha
    have hm := mem hi (show j < i by omega)
    obtain ⟨h1, h2⟩ := si.at' _ hm ha.1 ha.2
    rw [h1, h2]
    left
    exact ha.1

/-- Among those that haven't gone, one is free. -/
theorem free_one {t : Tk} {l : List Dn} (h : SerT t l) (gone : Nat → Bool) (hg : ∃ i, i < l.length ∧ gone i = false) : ∃ i, i < l.length ∧ gone i = false ∧ ∀ j, j < l.length → gone j = false → j ≠ i → aheadT l j i = false := by
  have hw : ∀ n : Nat, ∀ S : List Nat, S.length = n → S ≠ [] → ∃ i ∈ S, ∀ j ∈ S, j ≠ i → ¬ lexT (rankT l j) (rankT l i) j i := by
    intro n
    induction n with
    | zero => intro S hS hne; exact absurd (List.length_eq_zero_iff.1 hS) hne
    | succ n ih =>
      intro S hS hne
      match S, hne with
      | a :: r, _ =>
        by_cases hr : r = []
        · subst hr
          exact ⟨a, by simp, fun j hj hne => by simp at hj; exact absurd hj hne⟩
        · obtain ⟨i, hi, hmin⟩ := ih r (by simpa using hS) hr
          by_cases hla : lexT (rankT l a) (rankT l i) a i
          · refine ⟨a, by simp, fun j hj hne hl => ?_⟩
            rcases List.mem_cons.1 hj with e | hj
            · exact hne e
            · by_cases eij : j = i
              · subst eij
                unfold lexT at hla hl
                omega
              · refine hmin j hj eij ?_
                unfold lexT at hla hl ⊢
                omega
          · refine ⟨i, List.mem_cons_of_mem _ hi, fun j hj hne hl => ?_⟩
            rcases List.mem_cons.1 hj with e | hj
            · subst e
              exact hla hl
            · exact hmin j hj hne hl
  obtain ⟨i0, hi0, hg0⟩ := hg
  have hS : (List.range l.length).filter (fun i => !gone i) ≠ [] := fun e => by
    have : i0 ∈ (List.range l.length).filter (fun i => !gone i) := List.mem_filter.2 ⟨List.mem_range.2 hi0, by simp [hg0]⟩
    rw [e] at this
    simp at this
  obtain ⟨i, hi, hmin⟩ := hw _ _ rfl hS
  obtain ⟨h1, h2⟩ := List.mem_filter.1 hi
  refine ⟨i, List.mem_range.1 h1, by simpa using h2, fun j hj hgj hne => ?_⟩
  cases ea : aheadT l j i with
  | false => rfl
  | true => exact absurd (ahead_lex h hj (List.mem_range.1 h1) hne ea) (hmin j (List.mem_filter.2 ⟨List.mem_range.2 hj, by simp [hgj]⟩) hne)

end Go.Proofs.Ytmihddbnddgfhaa

/-
  The document's tracker (stage 13): all that was ever added, and which are gone. No program.
-/
namespace Go.Proofs.Ytmihddbnddgfhaa
open Go.RowKit

/-- Those that are there. -/
def keptG : List Dn → List Bool → List Dn
  | d :: l, b :: g => if b then keptG l g else d :: keptG l g
  | _, _ => []

theorem keptG_append : ∀ (l : List Dn) (g : List Bool) (l' : List Dn) (g' : List Bool), g.length = l.length → keptG (l ++ l') (g ++ g') = keptG l g ++ keptG l' g'
  | [], [], _, _, _ => rfl
  | [], _ :: _, _, _, h => by simp at h
  | _ :: _, [], _, _, h => by simp at h
  | d :: l, b :: g, l', g', h => by
    have ih := keptG_append l g l' g' (by simpa using h)
    cases b
    · show d :: keptG (l ++ l') (g ++ g') = d :: keptG l g ++ keptG l' g'
      rw [ih]; rfl
    · exact ih
theorem keptG_snoc (l : List Dn) (g : List Bool) (d : Dn) (b : Bool) (h : g.length = l.length) : keptG (l ++ [d]) (g ++ [b]) = keptG l g ++ (if b then [] else [d]) := by
  rw [keptG_append l g _ _ h]
  cases b <;> rfl
theorem keptG_mem : ∀ (l : List Dn) (g : List Bool) (d : Dn), d ∈ keptG l g → d ∈ l
  | [], _, _, h => by simp [keptG] at h
  | _ :: _, [], _, h => by simp [keptG] at h
  | x :: l, b :: g, d, h => by
    cases b
    · rcases List.mem_cons.1 (show d ∈ x :: keptG l g from h) with e | h
      · rw [e]; exact List.mem_cons_self
      · exact List.mem_cons_of_mem _ (keptG_mem l g d h)
    · exact List.mem_cons_of_mem _ (keptG_mem l g d h)
theorem keptG_le : ∀ (l : List Dn) (g : List Bool), (keptG l g).length ≤ l.length
  | [], _ => by simp [keptG]
  | _ :: _, [] => by simp [keptG]
  | x :: l, b :: g => by
    have := keptG_le l g
    cases b
    · show (x :: keptG l g).length ≤ _; simp only [List.length_cons]; omega
    · show (keptG l g).length ≤ _; simp only [List.length_cons]; omega
/-- One step of a walk. -/
theorem keptG_take {l : List Dn} {g : List Bool} (h : g.length = l.length) {i : Nat} (hi : i < l.length) : keptG (l.take (i + 1)) (g.take (i + 1)) = keptG (l.take i) (g.take i) ++ (if g[i]'(by omega) then [] else [l[i]]) := by
  rw [List.take_succ_eq_append_getElem hi, List.take_succ_eq_append_getElem (show i < g.length by omega), keptG_snoc _ _ _ _ (by rw [List.length_take, List.length_take]; omega)]

/-- The first that is there, taken away. -/
theorem keptG_first : ∀ (l : List Dn) (g : List Bool) (i : Nat) (hl : i < l.length), g.length = l.length → g[i]? = some false → (∀ j, j < i → g[j]? = some true) → keptG l g = l[i] :: keptG l (g.set i true)
  | [], _, _, hl, _, _, _ => by simp at hl
  | _ :: _, [], _, _, h, _, _ => by simp at h
  | d :: l, b :: g, 0, _, _, h, _ => by
    have hb : b = false := by simpa using h
    subst hb
    rfl
  | d :: l, b :: g, i + 1, hl, h, hi, hj => by
    have hb : b = true := by simpa using hj 0 (by omega)
    subst hb
    have ih := keptG_first l g i (by simpa using hl) (by simpa using h) (by simpa using hi) fun j hji => by simpa using hj (j + 1) (by omega)
    exact ih
theorem keptG_none : ∀ (l : List Dn) (g : List Bool), (∀ j, j < g.length → g[j]? = some true) → keptG l g = []
  | [], _, _ => by simp [keptG]
  | _ :: _, [], _ => rfl
  | d :: l, b :: g, h => by
    have hb : b = true := by simpa using h 0 (by simp)
    subst hb
    exact keptG_none l g fun j hj => by simpa using h (j + 1) (by simpa using hj)

/-- What a drop leaves of those that are gone. -/
def dropG (least : Int) : List Dn → List Bool → List Bool
  | d :: l, b :: g => (b || decide (d.stamp ≤ least)) :: dropG least l g
  | _, _ => []
theorem dropG_len (s : Int) : ∀ (l : List Dn) (g : List Bool), g.length = l.length → (dropG s l g).length = l.length
  | [], [], _ => rfl
  | [], _ :: _, h => by simp at h
  | _ :: _, [], h => by simp at h
  | d :: l, b :: g, h => by
    show (dropG s l g).length + 1 = l.length + 1
    rw [dropG_len s l g (by simpa using h)]
theorem dropG_get (s : Int) : ∀ (l : List Dn) (g : List Bool) (i : Nat) (hl : i < l.length) (hg : i < g.length), (dropG s l g)[i]? = some (g[i] || decide ((l[i]).stamp ≤ s))
  | [], _, _, hl, _ => by simp at hl
  | _ :: _, [], _, _, hg => by simp at hg
  | d :: l, b :: g, 0, _, _ => rfl
  | d :: l, b :: g, i + 1, hl, hg => by
    have := dropG_get s l g i (by simpa using hl) (by simpa using hg)
    simpa [dropG] using this
theorem keptG_drop (s : Int) : ∀ (l : List Dn) (g : List Bool), keptG l (dropG s l g) = (keptG l g).filter fun d => decide (s < d.stamp)
  | [], _ => by simp [keptG]
  | _ :: _, [] => by simp [keptG, dropG]
  | d :: l, b :: g => by
    have ih := keptG_drop s l g
    cases b with
    | true => exact ih
    | false =>
      by_cases h : d.stamp ≤ s
      · have e : (false || decide (d.stamp ≤ s)) = true := by simp [h]
        show keptG (d :: l) ((false || decide (d.stamp ≤ s)) :: dropG s l g) = (d :: keptG l g).filter _
        rw [e, List.filter_cons_of_neg (by simp; omega), ← ih]
        rfl
      · have e : (false || decide (d.stamp ≤ s)) = false := by simp [h]
        show keptG (d :: l) ((false || decide (d.stamp ≤ s)) :: dropG s l g) = (d :: keptG l g).filter _
        rw [e, List.filter_cons_of_pos (by simp; omega), ← ih]
        rfl
/-- Half way through a drop. -/
theorem dropG_step {s : Int} {l : List Dn} {g : List Bool} (h : g.length = l.length) {i : Nat} (hi : i < l.length) :
    ((dropG s l g).take i ++ g.drop i).set i (g[i]'(by omega) || decide ((l[i]).stamp ≤ s)) = (dropG s l g).take (i + 1) ++ g.drop (i + 1) := by
  have hd := dropG_len s l g h
  have e1 : ((dropG s l g).take i).length = i := by rw [List.length_take]; omega
  rw [List.set_append_right _ _ (by omega), e1, Nat.sub_self]
  have e2 := dropG_get s l g i hi (by omega)
  have e3 : (dropG s l g)[i]'(by omega) = (g[i]'(by omega) || decide ((l[i]).stamp ≤ s)) := by
    rw [List.getElem?_eq_getElem (by omega)] at e2
    exact Option.some.inj e2
  rw [List.take_succ_eq_append_getElem (by omega), e3, List.drop_eq_getElem_cons (show i < g.length by omega), List.set_cons_zero, List.append_assoc, List.singleton_append]

/-- The document's tracker, by what it says. -/
def tkG (most : Nat) (l : List Dn) (g : List Bool) (sum : Int) : Tk := ⟨most, keptG l g, l.getLast?.map Dn.stamp, sum⟩

theorem tkG_drop (most : Nat) (l : List Dn) (g : List Bool) (sum s : Int) : tkG most l (dropG s l g) sum = dropT (tkG most l g sum) s := by
  unfold tkG dropT
  simp only [keptG_drop]
theorem tkG_old (most : Nat) (l : List Dn) (g : List Bool) (sum : Int) (d : Dn) : oldT (tkG most l g sum) d = match l.getLast? with | some x => decide (d.stamp < x.stamp) | none => false := by
  unfold oldT tkG
  cases l.getLast? <;> rfl
/-- Added where there is room. -/
theorem tkG_add {most : Nat} {l : List Dn} {g : List Bool} {sum : Int} {d : Dn} (h : g.length = l.length) (hk : (keptG l g).length < most) : tkG most (l ++ [d]) (g ++ [false]) sum = keepT (tkG most l g sum) d := by
  have e : keepT (tkG most l g sum) d = ⟨most, keptG l g ++ [d], some d.stamp, sum⟩ := by
    unfold keepT
    rw [if_pos (show (tkG most l g sum).kept.length < (tkG most l g sum).most from hk)]
    rfl
  rw [e]
  unfold tkG
  rw [keptG_snoc l g d false h, List.getLast?_append]
  rfl
/-- Added where there is none: the first goes. -/
theorem tkG_full {most : Nat} {l : List Dn} {g : List Bool} {sum : Int} {d : Dn} (h : g.length = l.length) (hk : ¬ (keptG l g).length < most) {i : Nat} (hl : i < (l ++ [d]).length) (hi : (g ++ [false])[i]? = some false) (hj : ∀ j, j < i → (g ++ [false])[j]? = some true) :
    tkG most (l ++ [d]) ((g ++ [false]).set i true) (max sum ((l ++ [d])[i]).stamp) = keepT (tkG most l g sum) d := by
  have hf := keptG_first (l ++ [d]) (g ++ [false]) i hl (by rw [List.length_append, List.length_append, h]; rfl) hi hj
  rw [keptG_snoc l g d false h] at hf
  have e : keepT (tkG most l g sum) d = match keptG l g with | [] => ⟨most, [], some d.stamp, max sum d.stamp⟩ | x :: r => ⟨most, r ++ [d], some d.stamp, max sum x.stamp⟩ := by
    unfold keepT
    rw [if_neg (show ¬ (tkG most l g sum).kept.length < (tkG most l g sum).most from hk)]
    rfl
  rw [e]
  unfold tkG
  rw [List.getLast?_append]
  cases hg : keptG l g with
  | nil =>
    rw [hg] at hf
    injection (show [d] = _ from hf) with h1 h2
    rw [← h2, ← h1]
    rfl
  | cons x r =>
    rw [hg] at hf
    injection (show x :: (r ++ [d]) = _ from hf) with h1 h2
    rw [← h2, ← h1]
    rfl
theorem out_snoc (l : List Dn) (x : Dn) (s : Int) (m : Mk) : outT (l ++ [x]) s m = (outT l s m || (besideT s x && hitsM m x.chg)) := by simp [outT]
theorem deep_snoc (l : List Dn) (x : Dn) (s : Int) (m : Mk) : deepT (l ++ [x]) s m = (deepT l s m || (besideT s x && (hitsM m x.chg && x.out))) := by simp [deepT]
theorem in_snoc (l : List Dn) (x : Dn) (s : Int) (c : List Ch) : inT (l ++ [x]) s c = (inT l s c || (besideT s x && hitsM x.marks c)) := by simp [inT]

end Go.Proofs.Ytmihddbnddgfhaa

/-
  The contract of the reference's Less.
-/
namespace Go.Proofs.Ytmihddbnddgfhaa.Z
open Go.RowKit

theorem less_eq (a b c d : ByteArray) : (Op.bytesLess a.toList c.toList || (a.toList == c.toList && Op.bytesLess b.toList d.toList)) = decide (cmpI a b c d < 0) := by
  rw [Lib.toList_data, Lib.toList_data, Lib.toList_data, Lib.toList_data]
  exact (cmpL_less _ _ _ _).symm

end Go.Proofs.Ytmihddbnddgfhaa.Z

/-
  A key more in a rising list, in plain lists; and a row of keys under small changes.
-/
namespace Go.Proofs.Ytmihddbnddgfhaa.Z
open Go.RowKit

theorem rises_lt {d : List (ByteArray × ByteArray)} (h : Rises d) (i j : Nat) (hij : i < j) (hj : j < d.length) : ahead (d[i]'(by omega)) d[j] :=
  List.pairwise_iff_getElem.1 h i j (by omega) hj hij

theorem insert_rises (d : List (ByteArray × ByteArray)) (x : ByteArray × ByteArray) (p : Nat) (hp : p ≤ d.length) (hd : Rises d)
    (hlo : ∀ j, (hj : j < d.length) → j < p → ahead d[j] x) (hhi : ∀ j, (hj : j < d.length) → p ≤ j → ahead x d[j]) :
    Rises (d.take p ++ x :: d.drop p) ∧ ∀ y, y ∈ d.take p ++ x :: d.drop p ↔ y = x ∨ y ∈ d := by
  refine ⟨?_, fun y => ?_⟩
  · refine List.pairwise_append.2 ⟨hd.sublist (List.take_sublist _ _), List.pairwise_cons.2 ⟨fun y hy => ?_, hd.sublist (List.drop_sublist _ _)⟩, fun a ha b hb => ?_⟩
    · obtain ⟨j, hj, rfl⟩ := List.mem_iff_getElem.1 hy
      rw [List.getElem_drop]
      exact hhi _ _ (by omega)
    · obtain ⟨i, hi, rfl⟩ := List.mem_iff_getElem.1 ha
      rw [List.length_take] at hi
      rw [List.getElem_take]
      have hax := hlo i (by omega) (by omega)
      rcases List.mem_cons.1 hb with rfl | hb
      · exact hax
      · obtain ⟨j, hj, rfl⟩ := List.mem_iff_getElem.1 hb
        rw [List.getElem_drop]
        exact ahead_trans hax (hhi _ (by simp at hj; omega) (by omega))
  · have := List.take_append_drop p d
    constructor
    · intro h
      rcases List.mem_append.1 h with h | h
      · exact .inr (List.mem_of_mem_take h)
      · rcases List.mem_cons.1 h with h | h
        · exact .inl h
        · exact .inr (List.mem_of_mem_drop h)
    · rintro (rfl | h)
      · exact List.mem_append_right _ (List.mem_cons_self ..)
      · rw [← this] at h
        rcases List.mem_append.1 h with h | h
        · exact List.mem_append_left _ h
        · exact List.mem_append_right _ (List.mem_cons_of_mem _ h)

theorem zown_storeL {w : World} {base g n cap : Nat} {d : List (ByteArray × ByteArray)} (h : Own w base (.slice (some ⟨g, 0, none⟩) n cap) d) (i : Nat) (hi : i < d.length) (a b : ByteArray) :
    Own ((w.setCell ⟨g, i * 2, none⟩ (.string a)).setCell ⟨g, i * 2 + 1, none⟩ (.string b)) base (.slice (some ⟨g, 0, none⟩) n cap) (d.set i (a, b)) := by
  obtain ⟨rfl, _⟩ := h.keysAt
  have h1 := (World.ownsRow.stored h (i * 2) (.string a)).1
  have h2 := (World.ownsRow.stored h1 (i * 2 + 1) (.string b)).1
  rw [cellsL_set _ _ _ _ hi] at h2
  unfold Own
  rw [List.length_set]
  exact h2

theorem zown_atL {w : World} {base g n cap : Nat} {d : List (ByteArray × ByteArray)} (h : Own w base (.slice (some ⟨g, 0, none⟩) n cap) d) (i : Nat) (hi : i < d.length) :
    w.cell? ⟨g, i * 2, none⟩ = some (.string d[i].1) ∧ w.cell? ⟨g, i * 2 + 1, none⟩ = some (.string d[i].2) ∧ w.frozen? ⟨g, i * 2, none⟩ = false ∧ w.frozen? ⟨g, i * 2 + 1, none⟩ = false := by
  have := h.keysAt.2 i hi
  rw [Nat.zero_add] at this
  exact ⟨this.1, this.2, zown_frozen h _, zown_frozen h _⟩

theorem Own.on {W w' : World} {base : Nat} {v : Value} {d : List (ByteArray × ByteArray)} (h : Own W base v d) (hq : Below W.heap.size W w') : Own w' base v d := by
  obtain ⟨hl, h' | ⟨g, cap, cur, h', hb, hg, hnc, hcm, hcs, ht⟩⟩ := h
  · exact ⟨hl, .inl h'⟩
  · have lt : g < W.heap.size := (Array.getElem?_eq_some_iff.1 hg).1
    exact ⟨hl, .inr ⟨g, cap, cur, h', hb, by rw [hq.block g lt]; exact hg, hnc, hcm, hcs, ht⟩⟩

theorem ahead_cmp (x y : ByteArray × ByteArray) : decide (cmpI x.1 x.2 y.1 y.2 < 0) = true ↔ ahead x y := by
  rw [decide_eq_true_iff]; rfl

end Go.Proofs.Ytmihddbnddgfhaa.Z

/-
  The contract of the reference's Put.
-/
namespace Go.Proofs.Ytmihddbnddgfhaa.Z
open Go.RowKit

theorem new_cell (w : World) (cs : Array Value) (t : TypeId) (k : Nat) (v : Value) (h : cs[k]? = some v) : (w.alloc (.cells cs t)).cell? ⟨w.heap.size, k, none⟩ = some v := by
  simp only [World.cell?]; rw [heap_alloc_new]; exact h

/-- The worlds that Put goes through: its list and its key lie as they did. -/
def PutW (w : World) (base g n cap : Nat) (d : List (ByteArray × ByteArray)) (x : ByteArray × ByteArray) (wr : World) : Prop :=
  Own wr base (.slice (some ⟨g, 0, none⟩) n cap) d ∧ Below base w wr ∧ wr.cell? ⟨w.heap.size, 0, none⟩ = some (.string x.1) ∧ wr.cell? ⟨w.heap.size, 1, none⟩ = some (.string x.2)

theorem PutW.on {w : World} {base g n cap : Nat} {d : List (ByteArray × ByteArray)} {x : ByteArray × ByteArray} {W w' : World} (h : PutW w base g n cap d x W) (hb : base ≤ w.heap.size) (hq : Below W.heap.size W w') : PutW w base g n cap d x w' := by
  obtain ⟨h1, h2, h3, h4⟩ := h
  have hs := h2.size
  refine ⟨h1.on hq, h2.trans (hq.mono (by omega)), ?_, ?_⟩
  · have lt : w.heap.size < W.heap.size := by
      rcases Nat.lt_or_ge w.heap.size W.heap.size with h' | h'
      · exact h'
      · simp [World.cell?, Array.getElem?_eq_none h'] at h3
    rw [(bcell hq).1 _ _ lt]; exact h3
  · have lt : w.heap.size < W.heap.size := by
      rcases Nat.lt_or_ge w.heap.size W.heap.size with h' | h'
      · exact h'
      · simp [World.cell?, Array.getElem?_eq_none h'] at h3
    rw [(bcell hq).1 _ _ lt]; exact h4
theorem PutW.drew {w : World} {base g n cap : Nat} {d : List (ByteArray × ByteArray)} {x : ByteArray × ByteArray} {W : World} (h : PutW w base g n cap d x W) : PutW w base g n cap d x W.drew :=
  ⟨h.1, h.2.1.drew, h.2.2⟩

theorem PutW.full {w : World} {base g n cap : Nat} {d : List (ByteArray × ByteArray)} {x1 x2 : ByteArray} {W : World} (h : PutW w base g n cap d (x1, x2) W) (m : Nat) (hm : m < d.length) (y1 y2 : ByteArray) (hy : d[m] = (y1, y2)) :
    PutW w base g n cap d (x1, x2) W ∧ W.cell? ⟨g, m * 2, none⟩ = some (.string y1) ∧ W.cell? ⟨g, m * 2 + 1, none⟩ = some (.string y2) ∧ W.cell? ⟨w.heap.size, 0, none⟩ = some (.string x1) ∧ W.cell? ⟨w.heap.size, 1, none⟩ = some (.string x2) := by
  obtain ⟨a1, a2, _, _⟩ := zown_atL h.1 m hm
  rw [hy] at a1 a2
  exact ⟨h, a1, a2, h.2.2.1, h.2.2.2⟩

theorem Try.infoKey : (Try.prog.info? 67).map (fun i => (i.zero, i.size, i.bytes)) = some (some (.agg #[.string ⟨#[]⟩, .string ⟨#[]⟩]), 2, 32) := by kernel_rfl

theorem two_new (W : World) (N : Nat) (hN : N = W.heap.size) (a b : Value) : ∀ j u, [a, b][j]? = some u → (W.alloc (.cells #[a, b] 67)).cell? ((⟨N, 0, none⟩ : Addr).add j) = some u := by
  intro j u hu
  have hadd : (⟨N, 0, none⟩ : Addr).add j = ⟨N, j, none⟩ := by
    unfold Addr.add
    split
    · rename_i h; simp_all
    · simp
  rw [hadd, hN]
  exact new_cell W #[a, b] 67 j u (by simpa using hu)

theorem kept_n {w : World} {b o : Nat} {v : Value} {n : Nat} {ob : Obj} (h : w.cell? ⟨b, o, none⟩ = some v) (hlt : b < w.heap.size) : ((w.drewN n).alloc ob).cell? ⟨b, o, none⟩ = some v := by
  rw [← h]
  simp only [World.cell?, World.alloc, Array.getElem?_push]
  rw [if_neg (show ¬ b = (w.drewN n).heap.size from Nat.ne_of_lt hlt)]
  rfl

/-- The worlds of Put's second half: the longer list, and the key. -/
def PutV (w : World) (base g n cap : Nat) (dk : List (ByteArray × ByteArray)) (x : ByteArray × ByteArray) (wr : World) : Prop :=
  PutW w base g n cap dk x wr ∧ g ≠ w.heap.size

theorem PutV.store {w : World} {base g n cap : Nat} {dk : List (ByteArray × ByteArray)} {x : ByteArray × ByteArray} {wr : World} (h : PutV w base g n cap dk x wr) (hb : base ≤ g) (i : Nat) (hi : i < dk.length) (a b : ByteArray) :
    PutV w base g n cap (dk.set i (a, b)) x ((wr.setCell ⟨g, i * 2, none⟩ (.string a)).setCell ⟨g, i * 2 + 1, none⟩ (.string b)) := by
  obtain ⟨⟨h1, h2, h3, h4⟩, h5⟩ := h
  refine ⟨⟨zown_storeL h1 i hi a b, (h2.setCell hb _).setCell hb _, ?_, ?_⟩, h5⟩
  · rw [World.cell?_setCell_far _ _ _ _ h5, World.cell?_setCell_far _ _ _ _ h5]; exact h3
  · rw [World.cell?_setCell_far _ _ _ _ h5, World.cell?_setCell_far _ _ _ _ h5]; exact h4

/-- The new list, when the places behind p have moved up and x has come to p. -/
theorem put_list (d dk : List (ByteArray × ByteArray)) (x : ByteArray × ByteArray) (p : Nat) (hp : p ≤ d.length) (hl : dk.length = d.length + 1) (h1 : ∀ j, j < p → dk[j]? = d[j]?) (h2 : ∀ j, p < j → dk[j]? = d[j - 1]?) :
    dk.set p x = d.take p ++ x :: d.drop p := by
  apply List.ext_getElem?
  intro j
  rcases Nat.lt_trichotomy j p with h | h | h
  · rw [List.getElem?_set_ne (by omega), h1 j h, List.getElem?_append_left (by rw [List.length_take]; omega), List.getElem?_take_of_lt h]
  · subst h
    rw [List.getElem?_set_self (by omega), List.getElem?_append_right (by rw [List.length_take]; omega), List.length_take, Nat.min_eq_left hp, Nat.sub_self]
    rfl
  · rw [List.getElem?_set_ne (by omega), h2 j h, List.getElem?_append_right (by rw [List.length_take]; omega), List.length_take, Nat.min_eq_left hp]
    obtain ⟨u, rfl⟩ : ∃ u, j = p + u + 1 := ⟨j - p - 1, by omega⟩
    rw [show p + u + 1 - p = u + 1 by omega, List.getElem?_cons_succ, List.getElem?_drop, show p + u + 1 - 1 = p + u by omega]

/-- What Put leaves: a rising list with the key in it, in memory of its own. -/
def PutPost (base : Nat) (d : List (ByteArray × ByteArray)) (x : ByteArray × ByteArray) (w : World) (e : Ending) (w' : World) : Prop :=
  ∃ v r, e = .returned v ∧ Rises r ∧ (∀ y, y ∈ r ↔ y = x ∨ y ∈ d) ∧ r.length ≤ d.length + 1 ∧ Own w' base v r ∧ Below base w w'

attribute [local go_sem ↓] Go.wp_at_zero Go.wp_at_succ

end Go.Proofs.Ytmihddbnddgfhaa.Z

/-
  The operations of a region that draws its order, taken one by one by hand: what yields a value, what is passed over. No program.
-/

namespace Go.Proofs.Ytmihddbnddgfhaa


theorem at_drop0 {ops : Array Oper} {i : Nat} {oi : Oper} {rest : List Oper} (h : ops.toList.drop i = oi :: rest) : ops[i]? = some oi := by
  rw [← Array.getElem?_toList, ← List.head?_drop, h]; rfl

section
variable {P : Program} {ops : Array Oper} {Q : Exit → Act → World → Prop} {md : Region.Mode} {S : World → Prop}
/-- Operation number i of a drawn region is taken first: it yields v. -/
theorem take_val {i fuel : Nat} {listed : Array Bool} {a : Act} {w : World} (v : Value) {oi : Oper} {rest : List Oper} (hd : ops.toList.drop i = oi :: rest)
    (hs : Region.noSelect ops = true) (hf : Region.free md ops listed i = true) (hr : (Region.ready md ops listed).contains i = true)
    (hQ : ∀ c a w, Q (.panic c) (a.put oi.dst v) w → Q (.panic c) a w) (hw : Region.wanted oi (yielded ops a.tmps) = true) (hy : ∀ w, S w → (execOp a.eval oi).run P w = .ok (.value v) w) (hS : S w)
    (h : wpAnyH P md ops Q S fuel (listed.setIfInBounds i true) (a.put oi.dst v) w) : wpAnyH P md ops Q S (fuel + 1) listed a w :=
  wpAnyH_take (at_drop0 hd) hs hf hr hQ (Or.inl ⟨hw, hy⟩) hS h
/-- Operation number i of a drawn region is passed over. -/
theorem take_not {i fuel : Nat} {listed : Array Bool} {a : Act} {w : World} {oi : Oper} {rest : List Oper} (hd : ops.toList.drop i = oi :: rest)
    (hs : Region.noSelect ops = true) (hf : Region.free md ops listed i = true) (hr : (Region.ready md ops listed).contains i = true)
    (hQ : ∀ c a w, Q (.panic c) (a.put oi.dst undef) w → Q (.panic c) a w) (hw : Region.wanted oi (yielded ops a.tmps) = false) (hS : S w)
    (h : wpAnyH P md ops Q S fuel (listed.setIfInBounds i true) (a.put oi.dst undef) w) : wpAnyH P md ops Q S (fuel + 1) listed a w :=
  wpAnyH_take (at_drop0 hd) hs hf hr hQ (Or.inr ⟨hw, rfl⟩) hS h
end

end Go.Proofs.Ytmihddbnddgfhaa

/-
  The words tk_val, tk_not, tk_call, tk_on, tk_end of a drawn region taken by hand (Tak) are written out where a text is laid (inst.py): here are their imports alone.
-/
namespace Go.Proofs.Ytmihddbnddgfhaa

end Go.Proofs.Ytmihddbnddgfhaa

/-
  The reference's marks (stage 12): same, put, ranges, Sort and Put of keys, Touches.
-/
namespace Go.Proofs.Ytmihddbnddgfhaa
open Go.RowKit

theorem Try.infoRx : (Try.prog.info? 85).map (fun i => (i.zero, i.size, i.bytes)) = some (some (.agg #[.string ⟨#[]⟩, .slice none 0 0]), 2, 40) := by kernel_rfl

/-- Two boxes that were made one behind the other. -/
theorem two_boxes (w : World) (c1 c2 : Array Value) (t1 t2 : TypeId) : Below w.heap.size w ((w.alloc (.cells c1 t1)).alloc (.cells c2 t2)) ∧ ((w.alloc (.cells c1 t1)).alloc (.cells c2 t2)).heap[w.heap.size]? = some (.cells c1 t1 (0, 0)) ∧ ((w.alloc (.cells c1 t1)).alloc (.cells c2 t2)).heap[w.heap.size + 1]? = some (.cells c2 t2 (0, 0)) ∧ ((w.alloc (.cells c1 t1)).alloc (.cells c2 t2)).heap.size = w.heap.size + 2 := by
  have hb1 : Below w.heap.size w (w.alloc (.cells c1 t1)) := (Below.refl _ _).alloc (Nat.le_refl _) _
  have hs1 : (w.alloc (.cells c1 t1)).heap.size = w.heap.size + 1 := by simp
  have hb2 : Below (w.alloc (.cells c1 t1)).heap.size (w.alloc (.cells c1 t1)) ((w.alloc (.cells c1 t1)).alloc (.cells c2 t2)) := (Below.refl _ _).alloc (Nat.le_refl _) _
  have h1 : (w.alloc (.cells c1 t1)).heap[w.heap.size]? = some (.cells c1 t1 (0, 0)) := heap_alloc_new w _
  have h2 : ((w.alloc (.cells c1 t1)).alloc (.cells c2 t2)).heap[(w.alloc (.cells c1 t1)).heap.size]? = some (.cells c2 t2 (0, 0)) := heap_alloc_new _ _
  rw [hs1] at h2
  exact ⟨bel_then hb1 hb1.size hb2, (hb2.block _ (by omega)).trans h1, h2, by simp⟩

set_option maxHeartbeats 2000000 in
set_option maxRecDepth 100000 in
theorem same12_any (a b : Rx) (w : World) (ha : a.at w) (hb : b.at w) :
    Calls Try.prog 44 #[.agg (encRx a).toArray, .agg (encRx b).toArray] w fun e w' => e = .returned (.bool (decide (a.rg = b.rg))) ∧ Below w.heap.size w w' := by
  obtain ⟨hbV, h1, h2, hs⟩ := two_boxes w (encRx a).toArray (encRx b).toArray 85 85
  obtain ⟨V, hV⟩ : ∃ V, (w.alloc (.cells (encRx a).toArray 85)).alloc (.cells (encRx b).toArray 85) = V := ⟨_, rfl⟩
  obtain ⟨M, hM⟩ : ∃ M, w.heap.size = M := ⟨_, rfl⟩
  rw [hV] at hbV h1 h2 hs
  rw [hM] at h1 h2 hs
  have HS := hid (rsameM_any a.sl b.sl a.tm b.tm V (ha.on hbV).1 (hb.on hbV).1 ha.2.1.1)
  have HB := hid hbV
  obtain ⟨at', ap, ac, am⟩ := a
  obtain ⟨bt, bp, bc, bm⟩ := b
  simp only [encRx, Rx.sl, Rx.rg] at *
  have c0 : V.cell? ⟨M, 0, none⟩ = some (.string at') := by rw [Lib.cell_of_heap h1]; rfl
  have c1 : V.cell? ⟨M, 1, none⟩ = some (.slice ap am.length ac) := by rw [Lib.cell_of_heap h1]; rfl
  have d0 : V.cell? ⟨M + 1, 0, none⟩ = some (.string bt) := by rw [Lib.cell_of_heap h2]; rfl
  have d1 : V.cell? ⟨M + 1, 1, none⟩ = some (.slice bp bm.length bc) := by rw [Lib.cell_of_heap h2]; rfl
  clear ha hb hbV h1 h2 hs
  go_enter Try.func44, Try.ntmps44
  by_cases ht : at' = bt
  · have q1 : (at'.toList == bt.toList) = true := seq_true ht
    have HD : Hid (decide ((at', am) = (bt, bm)) = decide (am = bm)) := by show _ = _; rw [ht]; simp
    clear ht
    go_wp2_with fail
    try rw [hV]
    refine HS.out.mono ?_
    rintro e w1 ⟨rfl, n, rfl⟩
    generalize decide (am = bm) = R at *
    go_wp2_with fail
    go_ret
    exact ⟨ret_bool HD.out.symm, bel_drewN HB.out n⟩
  · have q1 : (at'.toList == bt.toList) = false := seq_false ht
    have HD : Hid (decide ((at', am) = (bt, bm)) = false) := by show _ = _; rw [decide_eq_false_iff_not]; intro h; exact ht (congrArg Prod.fst h)
    clear ht
    go_wp2_with fail
    try rw [hV]
    go_ret
    exact ⟨ret_bool HD.out.symm, HB.out⟩

/-- What put leaves: the row, one longer or as it was. -/
def PutRPost (N : Nat) (W : World) (l : List Rx) (r : Rx) (e : Ending) (w' : World) : Prop :=
  ∃ p c l', e = .returned (.slice p l'.length c) ∧ RowSt KRx N W (.slice p l'.length c) l' w' ∧ l'.map Rx.rg = putR (l.map Rx.rg) r.rg ∧ ∀ x ∈ l', x ∈ l ∨ x = r

/-- What ranges leaves: a row of its own, with the same ranges. -/
def RowRPost (W : World) (l : List Rx) (e : Ending) (w' : World) : Prop :=
  ∃ p c, e = .returned (.slice p l.length c) ∧ RowSt KRx W.heap.size W (.slice p l.length c) l w'

/-- What Sort of the reference leaves: keys of its own, rising, each once. -/
def KeyRPost (W : World) (l : List Ky) (e : Ending) (w' : World) : Prop := ∃ u, e = .returned u ∧ KK.Own W.heap.size w' u l ∧ Below W.heap.size W w'

set_option maxHeartbeats 4000000 in
set_option maxRecDepth 100000 in
theorem touches12_any (r : Rx) (c : Cx) (w : World) (hr : r.at w) (hc : CIn w c) :
    Calls Try.prog 68 #[.agg (encRx r).toArray, .agg (encCx c).toArray] w fun e w' => e = .returned (.bool (touchesM r.rg c.ch)) ∧ Below w.heap.size w w' := by
  obtain ⟨hbV, h1, h2, hs⟩ := two_boxes w (encRx r).toArray (encCx c).toArray 85 70
  obtain ⟨V, hV⟩ : ∃ V, (w.alloc (.cells (encRx r).toArray 85)).alloc (.cells (encCx c).toArray 70) = V := ⟨_, rfl⟩
  obtain ⟨M, hM⟩ : ∃ M, w.heap.size = M := ⟨_, rfl⟩
  rw [hV] at hbV h1 h2 hs
  rw [hM] at h1 h2 hs
  have HMT : Hid (∀ W', Below V.heap.size V W' → (Calls Try.prog 73 #[r.sl, .slice c.wp c.wo.length c.wc] W' fun e w' => e = .returned (.bool (matchM r.tm (c.wo.map Fx.fld))) ∧ Below W'.heap.size W' w') ∧ (Calls Try.prog 73 #[r.sl, .slice c.ip c.io.length c.ic] W' fun e w' => e = .returned (.bool (matchM r.tm (c.io.map Fx.fld))) ∧ Below W'.heap.size W' w')) := fun W' hW => by
    have hb : Below w.heap.size w W' := bel_then hbV hbV.size hW
    have hr' := hr.on hb
    have hc' := hc.on hb
    exact ⟨(rmatch_any _ _ r.tm c.wo W' hr'.1 hr'.2.1 hc'.was hc'.wfit).mono fun e w' q => ⟨q.1, q.2.below⟩, (rmatch_any _ _ r.tm c.io W' hr'.1 hr'.2.1 hc'.is hc'.ifit).mono fun e w' q => ⟨q.1, q.2.below⟩⟩
  have HB := hid hbV
  have HBX : Hid (∀ W' : World, Below V.heap.size V W' → (W'.cell? ⟨M, 0, none⟩ = some (.string r.typ) ∧ W'.cell? ⟨M, 1, none⟩ = some r.sl) ∧ W'.cell? ⟨M + 1, 0, none⟩ = some (.string c.a) ∧ W'.cell? ⟨M + 1, 1, none⟩ = some (.string c.b) ∧ W'.cell? ⟨M + 1, 2, none⟩ = some (.bool c.wl) ∧ W'.cell? ⟨M + 1, 3, none⟩ = some (.slice c.wp c.wo.length c.wc) ∧ W'.cell? ⟨M + 1, 4, none⟩ = some (.bool c.il) ∧ W'.cell? ⟨M + 1, 5, none⟩ = some (.slice c.ip c.io.length c.ic)) := fun W' hW => by
    have e1 := (hW.block M (by omega)).trans h1
    have e2 := (hW.block (M + 1) (by omega)).trans h2
    exact ⟨⟨by rw [Lib.cell_of_heap e1]; rfl, by rw [Lib.cell_of_heap e1]; rfl⟩, by rw [Lib.cell_of_heap e2]; rfl, by rw [Lib.cell_of_heap e2]; rfl, by rw [Lib.cell_of_heap e2]; rfl, by rw [Lib.cell_of_heap e2]; rfl, by rw [Lib.cell_of_heap e2]; rfl, by rw [Lib.cell_of_heap e2]; rfl⟩
  clear hr hc hbV h1 h2 hs
  obtain ⟨rt, rp, rc, rm⟩ := r
  obtain ⟨ca, cb, wl, wp, wc, wo, il, ip, ic, io⟩ := c
  have HTV : Hid (∀ R1 R2, matchM rm (wo.map Fx.fld) = R1 → matchM rm (io.map Fx.fld) = R2 → touchesM (⟨rt, rp, rc, rm⟩ : Rx).rg (⟨ca, cb, wl, wp, wc, wo, il, ip, ic, io⟩ : Cx).ch = (decide (rt = ca) && ((wl && R1) || (il && R2)))) := by rintro _ _ rfl rfl; rfl
  generalize touchesM (⟨rt, rp, rc, rm⟩ : Rx).rg (⟨ca, cb, wl, wp, wc, wo, il, ip, ic, io⟩ : Cx).ch = TT at *
  simp only [encRx, encCx, Rx.sl] at *
  obtain ⟨⟨a0, a1⟩, b0, b1, b2, b3, b4, b5⟩ := HBX.out V (Below.refl _ _)
  go_enter Try.func68, Try.ntmps68
  by_cases ht : rt = ca
  · have q1 : (rt.toList == ca.toList) = true := seq_true ht
    have q2 : (rt.toList != ca.toList) = false := by simp [bne, q1]
    obtain ⟨R1, hR1⟩ : ∃ R1, matchM rm (wo.map Fx.fld) = R1 := ⟨_, rfl⟩
    obtain ⟨R2, hR2⟩ : ∃ R2, matchM rm (io.map Fx.fld) = R2 := ⟨_, rfl⟩
    have HT := hid (HTV.out R1 R2 hR1 hR2)
    rw [decide_eq_true ht] at HT
    rw [hR1, hR2] at HMT
    clear ht hR1 hR2 HTV
    obtain ⟨HM1, HM2⟩ := HMT.out V (Below.refl _ _)
    have H1 := hid HM1
    have H2 := hid HM2
    have HM3 : Hid (∀ W', Below V.heap.size V W' → Calls Try.prog 73 #[.slice rp rm.length rc, .slice ip io.length ic] W' fun e w' => e = .returned (.bool R2) ∧ Below W'.heap.size W' w') := fun W' hW => (HMT.out W' hW).2
    clear HM1 HM2 HMT
    cases wl with
    | true =>
      go_wp2_with fail
      try rw [hV]
      refine H1.out.mono ?_
      rintro e w1 ⟨rfl, hb1⟩
      have HB1 := hid (bel_then HB.out HB.out.size hb1)
      have H3 := hid (HM3.out w1 hb1)
      obtain ⟨⟨a0, a1⟩, b0, b1, b2, b3, b4, b5⟩ := HBX.out w1 hb1
      clear hb1 H1 H2 HM3
      cases R1 with
      | true =>
        go_wp2_with fail
        go_ret
        exact ⟨ret_bool HT.out.symm, HB1.out⟩
      | false =>
        cases il with
        | true =>
          go_wp2_with fail
          refine H3.out.mono ?_
          rintro e w2 ⟨rfl, hb2⟩
          have HB2 := hid (bel_then HB1.out HB1.out.size hb2)
          clear hb2 H3
          go_wp2_with fail
          go_ret
          exact ⟨ret_bool (by rw [HT.out]; cases R2 <;> rfl), HB2.out⟩
        | false =>
          go_wp2_with fail
          go_ret
          exact ⟨ret_bool HT.out.symm, HB1.out⟩
    | false =>
      cases il with
      | true =>
        go_wp2_with fail
        try rw [hV]
        refine H2.out.mono ?_
        rintro e w2 ⟨rfl, hb2⟩
        have HB2 := hid (bel_then HB.out HB.out.size hb2)
        clear hb2 H1 H2 HM3
        go_wp2_with fail
        go_ret
        exact ⟨ret_bool (by rw [HT.out]; cases R2 <;> rfl), HB2.out⟩
      | false =>
        go_wp2_with fail
        try rw [hV]
        go_ret
        exact ⟨ret_bool HT.out.symm, HB.out⟩
  · have q1 : (rt.toList == ca.toList) = false := seq_false ht
    have q2 : (rt.toList != ca.toList) = true := by simp [bne, q1]
    have HT := hid (HTV.out _ _ rfl rfl)
    rw [decide_eq_false ht] at HT
    clear ht HTV
    go_wp2_with fail
    try rw [hV]
    go_ret
    exact ⟨ret_bool HT.out.symm, HB.out⟩

end Go.Proofs.Ytmihddbnddgfhaa
