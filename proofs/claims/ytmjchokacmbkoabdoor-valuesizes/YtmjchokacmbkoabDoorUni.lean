/-
  A list that is in order, and stable, is one: the fields as a stable sort leaves them.
-/
import Derived.Test.YtmjchokacmbkoabDoorPar
namespace Go.Proofs.YtmjchokacmbkoabDoor
open Go.RowKit Go.Sort Go.Lib

def ltB (a b : ByteArray) : Bool := decide (Lib.compareBytes a.data.toList b.data.toList < 0)

theorem ba_eq {a b : ByteArray} (h : a.data.toList = b.data.toList) : a = b := by
  obtain ⟨⟨a⟩⟩ := a
  obtain ⟨⟨b⟩⟩ := b
  cases h
  rfl

theorem ltB_anti {a b : ByteArray} (h : ltB a b = false) (k : ltB b a = false) : a = b := by
  unfold ltB at *
  rw [decide_eq_false_iff_not] at *
  refine ba_eq ((cb_zero _ _).1 ?_)
  have := cb_neg a.data.toList b.data.toList
  omega

theorem ltB_irrefl (a : ByteArray) : ltB a a = false := by
  unfold ltB; rw [cb_self]; rfl

theorem ltB_asymm {a b : ByteArray} (h : ltB a b = true) : ltB b a = false := by
  unfold ltB at *
  rw [decide_eq_true_iff] at h
  rw [decide_eq_false_iff_not]
  have := cb_neg a.data.toList b.data.toList
  omega

theorem ltB_trans {a b c : ByteArray} (h : ltB a b = true) (k : ltB b c = true) : ltB a c = true := by
  unfold ltB at *
  rw [decide_eq_true_iff] at *
  exact cb_lt_trans _ _ _ h k

theorem ltB_cases (a b : ByteArray) : ltB a b = true ∨ a = b ∨ ltB b a = true := by
  cases h : ltB a b with
  | true => exact Or.inl rfl
  | false =>
    cases k : ltB b a with
    | true => exact Or.inr (Or.inr rfl)
    | false => exact Or.inr (Or.inl (ltB_anti h k))

/-- not b < a, b < c: a < c. -/
theorem ltB_le_lt {a b c : ByteArray} (h : ltB b a = false) (k : ltB b c = true) : ltB a c = true := by
  rcases ltB_cases a b with h1 | rfl | h1
  · exact ltB_trans h1 k
  · exact k
  · rw [h] at h1; cases h1

def InOrder (l : List Fld) : Prop := l.Pairwise fun x y => ltB y.1 x.1 = false

theorem order_unique : ∀ (a b : List Fld), InOrder a → InOrder b → (∀ c, a.filter (fun x => decide (x.1 = c)) = b.filter fun x => decide (x.1 = c)) → a = b
  | [], [], _, _, _ => rfl
  | [], y :: b, _, _, h => by have := h y.1; simp at this
  | x :: a, [], _, _, h => by have := h x.1; simp at this
  | x :: a, y :: b, ha, hb, h => by
    have ha' := List.pairwise_cons.1 ha
    have hb' := List.pairwise_cons.1 hb
    have hn : x.1 = y.1 := by
      have hx : x ∈ (y :: b).filter (fun z => decide (z.1 = x.1)) := by rw [← h]; simp
      have hy : y ∈ (x :: a).filter (fun z => decide (z.1 = y.1)) := by rw [h]; simp
      rw [List.mem_filter] at hx hy
      have h1 : ltB x.1 y.1 = false := by
        rcases List.mem_cons.1 hx.1 with e | e
        · rw [e]; exact ltB_irrefl _
        · exact hb'.1 x e
      have h2 : ltB y.1 x.1 = false := by
        rcases List.mem_cons.1 hy.1 with e | e
        · rw [e]; exact ltB_irrefl _
        · exact ha'.1 y e
      exact ltB_anti h1 h2
    have hxy : x = y := by
      have := h x.1
      rw [List.filter_cons_of_pos (by simp), List.filter_cons_of_pos (by simp [hn])] at this
      exact (List.cons.inj this).1
    subst hxy
    congr 1
    refine order_unique a b ha'.2 hb'.2 fun c => ?_
    have := h c
    by_cases e : x.1 = c
    · rw [List.filter_cons_of_pos (by simp [e]), List.filter_cons_of_pos (by simp [e])] at this
      exact (List.cons.inj this).2
    · rwa [List.filter_cons_of_neg (by simp [e]), List.filter_cons_of_neg (by simp [e])] at this

/-- f behind all that are not above it. -/
def insF (f : Fld) : List Fld → List Fld
  | [] => [f]
  | g :: l => if ltB f.1 g.1 then f :: g :: l else g :: insF f l

def sortS (l : List Fld) : List Fld := l.foldl (fun acc f => insF f acc) []

theorem mem_insF (f x : Fld) (l : List Fld) : x ∈ insF f l ↔ x = f ∨ x ∈ l := by
  induction l with
  | nil => simp [insF]
  | cons g l ih =>
    unfold insF
    split
    · simp
    · simp [ih, or_left_comm]

theorem insF_order (f : Fld) (l : List Fld) (h : InOrder l) : InOrder (insF f l) := by
  induction l with
  | nil => simp [insF, InOrder]
  | cons g l ih =>
    have h' := List.pairwise_cons.1 h
    unfold insF
    split
    · rename_i hlt
      refine List.pairwise_cons.2 ⟨fun x hx => ?_, h⟩
      rcases List.mem_cons.1 hx with rfl | hx
      · exact ltB_asymm hlt
      · have h1 := h'.1 x hx
        refine ltB_asymm ?_
        rcases ltB_cases g.1 x.1 with h2 | h2 | h2
        · exact ltB_trans hlt h2
        · rw [← h2]; exact hlt
        · rw [h1] at h2; cases h2
    · rename_i hlt
      refine List.pairwise_cons.2 ⟨fun x hx => ?_, ih h'.2⟩
      rcases (mem_insF f x l).1 hx with rfl | hx
      · simpa using hlt
      · exact h'.1 x hx

theorem insF_filter (f : Fld) (l : List Fld) (h : InOrder l) (c : ByteArray) : (insF f l).filter (fun x => decide (x.1 = c)) = (l ++ [f]).filter fun x => decide (x.1 = c) := by
  induction l with
  | nil => rfl
  | cons g l ih =>
    have h' := List.pairwise_cons.1 h
    unfold insF
    split
    · rename_i hlt
      by_cases e : f.1 = c
      · have hno : (g :: l).filter (fun x => decide (x.1 = c)) = [] := by
          rw [List.filter_eq_nil_iff]
          intro x hx hxc
          have hxc : x.1 = c := by simpa using hxc
          have hlx : ltB f.1 x.1 = true := by
            rcases List.mem_cons.1 hx with rfl | hx
            · exact hlt
            · have h1 := h'.1 x hx
              rcases ltB_cases g.1 x.1 with h2 | h2 | h2
              · exact ltB_trans hlt h2
              · rw [← h2]; exact hlt
              · rw [h1] at h2; cases h2
          rw [hxc, ← e, ltB_irrefl] at hlx
          cases hlx
        rw [List.filter_append, hno, List.filter_cons_of_pos (by simp [e]), hno, List.filter_cons_of_pos (by simp [e])]
        rfl
      · rw [List.filter_cons_of_neg (by simp [e]), List.filter_append, List.filter_cons_of_neg (p := fun x => decide (x.1 = c)) (a := f) (by simp [e])]
        simp
    · rw [List.cons_append, List.filter_cons, List.filter_cons, ih h'.2]

theorem sortS_spec (l : List Fld) : InOrder (sortS l) ∧ ∀ c, (sortS l).filter (fun x => decide (x.1 = c)) = l.filter fun x => decide (x.1 = c) := by
  have : ∀ (l acc : List Fld), InOrder acc → InOrder (l.foldl (fun acc f => insF f acc) acc) ∧ ∀ c, (l.foldl (fun acc f => insF f acc) acc).filter (fun x => decide (x.1 = c)) = (acc ++ l).filter fun x => decide (x.1 = c) := by
    intro l
    induction l with
    | nil => intro acc h; exact ⟨h, fun c => by simp⟩
    | cons f l ih =>
      intro acc h
      obtain ⟨h1, h2⟩ := ih (insF f acc) (insF_order f acc h)
      refine ⟨h1, fun c => ?_⟩
      rw [List.foldl_cons, h2 c, List.filter_append, insF_filter f acc h c, ← List.filter_append]
      simp
  have h := this l [] List.Pairwise.nil
  exact ⟨h.1, fun c => by simpa [sortS] using h.2 c⟩

theorem sortOf_flds {d ds : List Fx} (h : SortOf d ds) : ds.map Fx.fld = sortS (d.map Fx.fld) := by
  obtain ⟨h1, h2⟩ := sortS_spec (d.map Fx.fld)
  refine order_unique _ _ ?_ h1 fun c => ?_
  · refine List.Pairwise.map _ (fun x y hxy => ?_) h.2.1
    exact hxy
  · rw [h2 c, List.filter_map, List.filter_map]
    exact congrArg (List.map Fx.fld) (h.2.2 c)

/-- What Norm answers, by the fields alone. -/
def normF (fs : List Fld) : List Fld := joinS (sortS fs)

theorem NormAns.plain {N : Nat} {d : List Fx} {e : Ending} {w' : World} (h : NormAns N d e w') :
    ((d.map Fx.fld).any misB = true ∧ e = .returned (.tuple #[.slice none 0 0, .int .i64 2])) ∨
    ((d.map Fx.fld).any misB = false ∧
     (((normF (d.map Fx.fld)).any bareB = true ∧ e = .returned (.tuple #[.slice none 0 0, .int .i64 3])) ∨
      ((normF (d.map Fx.fld)).any bareB = false ∧ mayB (normF (d.map Fx.fld)) = false ∧ e = .returned (.tuple #[.slice none 0 0, .int .i64 5])) ∨
      ((normF (d.map Fx.fld)).any bareB = false ∧ mayB (normF (d.map Fx.fld)) = true ∧ ∃ u o, e = .returned (.tuple #[u, .int .i64 0]) ∧ OwnJ N w' u o ∧ o.map Fx.fld = normF (d.map Fx.fld)))) := by
  rcases h with h | ⟨h1, ds, h2, h3⟩
  · exact Or.inl h
  · have e := sortOf_flds h2
    rw [e] at h3
    exact Or.inr ⟨h1, h3⟩

end Go.Proofs.YtmjchokacmbkoabDoor
