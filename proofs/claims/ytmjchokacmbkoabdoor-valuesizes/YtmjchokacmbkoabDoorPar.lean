/-
  The contract of Parse where a line has fewer than 20 words.
-/
import Derived.Test.YtmjchokacmbkoabDoorSpl
import Derived.Test.YtmjchokacmbkoabDoorWrd
import Derived.Test.YtmjchokacmbkoabDoorNor
namespace Go.Proofs.YtmjchokacmbkoabDoor
open Go.RowKit
attribute [local go_sem] Oper.semAt_some

/-- The fields that words say. -/
def fieldsW : List (List UInt8) → Option (List Fld)
  | [] => some []
  | l :: r => match wordO l with
    | none => none
    | some (n, t) => (fieldsW r).map ((⟨n.toArray⟩, [⟨t.toArray⟩]) :: ·)

theorem fieldsW_append (a b : List (List UInt8)) : fieldsW (a ++ b) = (fieldsW a).bind fun x => (fieldsW b).map (x ++ ·) := by
  induction a with
  | nil => simp [fieldsW]
  | cons l a ih =>
    simp only [List.cons_append, fieldsW]
    cases wordO l with
    | none => rfl
    | some o =>
      obtain ⟨n, t⟩ := o
      simp only [ih]
      cases fieldsW a with
      | none => rfl
      | some x => cases fieldsW b <;> simp

/-- What Parse holds between two rounds. -/
def ParseSt {M : Nat} (w : World) (N : Nat) (pre : List (Wd M)) (W : World) : Prop :=
  ∃ v d fs, W.heap[w.heap.size + 2]? = some (.cells #[v] 22 (0, 0)) ∧ OwnXs (N + 2) W v d ∧ fieldsW (plainW pre) = some fs ∧ d.map Fx.fld = fs ∧ d.length = pre.length ∧
    W.heap[w.heap.size]? = some (.cells #[.slice none 0 0] 22 (0, 0)) ∧ W.heap[w.heap.size + 1]? = some (.cells #[.int .i64 0] 24 (0, 0)) ∧ Below w.heap.size w W ∧ N + 2 ≤ W.heap.size ∧ w.heap.size + 6 ≤ N

def ParseStop {M : Nat} (w : World) (N : Nat) (c : Code) (pre : List (Wd M)) (W : World) : Prop :=
  c = .ret ∧ fieldsW (plainW pre) = none ∧ W.heap[w.heap.size]? = some (.cells #[.slice none 0 0] 22 (0, 0)) ∧ W.heap[w.heap.size + 1]? = some (.cells #[.int .i64 4] 24 (0, 0)) ∧ Below w.heap.size w W ∧ w.heap.size + 6 ≤ N

/-- What Norm answers, its rows at or behind N. -/
def NormAns (N : Nat) (d : List Fx) (e : Ending) (w' : World) : Prop :=
  ((d.map Fx.fld).any misB = true ∧ e = .returned (.tuple #[.slice none 0 0, .int .i64 2])) ∨
   ((d.map Fx.fld).any misB = false ∧ ∃ ds, SortOf d ds ∧
     (((joinS (ds.map Fx.fld)).any bareB = true ∧ e = .returned (.tuple #[.slice none 0 0, .int .i64 3])) ∨
      ((joinS (ds.map Fx.fld)).any bareB = false ∧ mayB (joinS (ds.map Fx.fld)) = false ∧ e = .returned (.tuple #[.slice none 0 0, .int .i64 5])) ∨
      ((joinS (ds.map Fx.fld)).any bareB = false ∧ mayB (joinS (ds.map Fx.fld)) = true ∧ ∃ u o, e = .returned (.tuple #[u, .int .i64 0]) ∧ OwnJ N w' u o ∧ o.map Fx.fld = joinS (ds.map Fx.fld))))

theorem NormPost.ans {w w' : World} {d : List Fx} {e : Ending} (h : NormPost w d e w') : NormAns w.heap.size d e w' := h.1

theorem OwnJ.far {N R : Nat} {w w' : World} {v : Value} {o : List Fx} (h : OwnJ N w v o) (hg : w.grownBy w' (some R)) (hR : R < N) : OwnJ N w' v o := ⟨h.1.far hg hR, h.2⟩
theorem OwnJ.weak {N N' : Nat} {w : World} {v : Value} {o : List Fx} (h : OwnJ N w v o) (hN : N' ≤ N) : OwnJ N' w v o := ⟨⟨own_weak h.1.1 hN, fun x hx => own_weak (h.1.2 x hx) hN⟩, h.2⟩

theorem NormAns.map {N N' : Nat} {d : List Fx} {e : Ending} {w w' : World} (h : NormAns N d e w) (f : ∀ u o, OwnJ N w u o → OwnJ N' w' u o) : NormAns N' d e w' := by
  rcases h with h | ⟨h1, ds, h2, h3⟩
  · exact Or.inl h
  · refine Or.inr ⟨h1, ds, h2, ?_⟩
    rcases h3 with h3 | h3 | ⟨h3, h4, u, o, h5, h6, h7⟩
    · exact Or.inl h3
    · exact Or.inr (Or.inl h3)
    · exact Or.inr (Or.inr ⟨h3, h4, u, o, h5, f _ _ h6, h7⟩)

theorem NormAns.shape {N : Nat} {d : List Fx} {e : Ending} {w : World} (h : NormAns N d e w) : ∃ p n c k, e = .returned (.tuple #[.slice p n c, .int .i64 k]) := by
  rcases h with ⟨_, h⟩ | ⟨_, ds, _, ⟨_, h⟩ | ⟨_, _, h⟩ | ⟨_, _, u, o, h, ho, _⟩⟩
  · exact ⟨_, _, _, _, h⟩
  · exact ⟨_, _, _, _, h⟩
  · exact ⟨_, _, _, _, h⟩
  · rcases ho.1.1.2 with ⟨rfl, _⟩ | ⟨g, cap, cur, rfl, _⟩
    · exact ⟨_, _, _, _, h⟩
    · exact ⟨_, _, _, _, h⟩

def ParsePost (w : World) (l : List UInt8) (e : Ending) (w' : World) : Prop :=
  ((l = [] ∧ e = .returned (.tuple #[.slice none 0 0, .int .i64 0])) ∨
   (l ≠ [] ∧ fieldsW (splitL l) = none ∧ e = .returned (.tuple #[.slice none 0 0, .int .i64 4])) ∨
   (l ≠ [] ∧ ∃ fs d, fieldsW (splitL l) = some fs ∧ d.map Fx.fld = fs ∧ NormAns w.heap.size d e w')) ∧ Below w.heap.size w w'

theorem splitL_len (l : List UInt8) : (splitL l).length ≤ l.length + 1 := by
  induction h : l.length using Nat.strongRecOn generalizing l with
  | _ k ih =>
    subst h
    rcases ix_cases l 32 with ⟨h, _⟩ | ⟨i, h, hi, _⟩
    · rw [splitL_no h]; simp
    · rw [splitL_yes h, List.length_cons]
      have := ih (l.drop (i + 1)).length (by simp; omega) _ rfl
      simp at this ⊢
      omega

theorem wordO_len {l n t : List UInt8} (h : wordO l = some (n, t)) : n.length ≤ l.length ∧ t.length ≤ l.length := by
  unfold wordO at h
  split at h
  · cases h
  · cases hr : readL (l.drop ((Lib.indexByte l 61).toNat + 1)) with
    | none => rw [hr] at h; cases h
    | some m =>
      rw [hr] at h
      simp only [Option.map_some, Option.some.injEq, Prod.mk.injEq] at h
      obtain ⟨rfl, rfl⟩ := h
      have := readL_len _ _ _ (Nat.le_refl _) hr
      simp at this ⊢
      omega

theorem fieldsW_len {B : Nat} (ls : List (List UInt8)) (hB : ∀ l ∈ ls, l.length ≤ B) : ∀ fs, fieldsW ls = some fs → fs.length = ls.length ∧ totF fs = ls.length ∧ ∀ f ∈ fs, f.1.size ≤ B ∧ f.2.length = 1 ∧ ∀ t ∈ f.2, t.size ≤ B := by
  induction ls with
  | nil => intro fs h; cases h; exact ⟨rfl, rfl, fun f hf => by simp at hf⟩
  | cons l ls ih =>
    intro fs h
    simp only [fieldsW] at h
    cases ho : wordO l with
    | none => rw [ho] at h; cases h
    | some o =>
      obtain ⟨n, t⟩ := o
      rw [ho] at h
      cases hr : fieldsW ls with
      | none => rw [hr] at h; cases h
      | some gs =>
        rw [hr] at h
        cases h
        obtain ⟨h1, h2, h3⟩ := ih (fun l' hl' => hB l' (by simp [hl'])) gs hr
        obtain ⟨hn, ht⟩ := wordO_len ho
        have hl := hB l (by simp)
        refine ⟨by simp [h1], ?_, fun f hf => ?_⟩
        · simp only [totF, List.map_cons, List.sum_cons, List.length_cons, List.length_nil] at h2 ⊢
          omega
        · rw [List.mem_cons] at hf
          rcases hf with rfl | hf
          · refine ⟨?_, rfl, fun u hu => ?_⟩
            · show (ByteArray.mk _).size ≤ B
              simp [ByteArray.size]; omega
            · simp at hu; subst hu; simp [ByteArray.size]; omega
          · exact h3 f hf

theorem one_facts {w : World} {B : Nat} {u : Value} {T : TypeId} (h : w.heap[B]? = some (.cells #[u] T (0, 0))) : w.cell? ⟨B, 0, none⟩ = some u ∧ w.frozen? ⟨B, 0, none⟩ = false :=
  ⟨by rw [Lib.cell_of_heap h]; rfl, Lib.frozen_of_heap h 0⟩

theorem keeps_below {B : Nat} {W W' : World} (h : Below W.heap.size W W') : KeepsFrom B W W' :=
  ⟨h.size, fun k _ _ hk _ => (h.block k (Array.getElem?_eq_some_iff.1 hk).1).trans hk⟩

theorem row_cells {w : World} {base n k : Nat} {e : TypeId} {v : Value} {xs : List Value} {j : Nat} {o : Obj} (h : w.ownsRow base e n v k xs) (ej : v.ownBlock = some j) (hj : w.heap[j]? = some o) : o.isCells = true := by
  rcases h.2 with ⟨rfl, _⟩ | ⟨g, cap, cur, rfl, _, hgb, _⟩
  · simp [Value.ownBlock] at ej
  · obtain rfl : g = j := by simpa [Value.ownBlock] using ej
    rw [hgb] at hj; cases hj; rfl

set_option maxHeartbeats 1000000 in
theorem parse_empty (w : World) : Calls Tryd.prog 20 #[.string ⟨#[]⟩] w fun e w' => ParsePost w [] e w' := by
  refine (callsIn_wide (n := 3)).1 ?_
  refine callsIn_of_wp_marks Tryd.func20 rfl trivial ?_ rfl
  simp only [Tryd.ntmps20, List.size_toArray, List.length_cons, List.length_nil, Nat.reduceAdd, Nat.reduceSub, Array.replicate_succ, Array.replicate_zero, List.push_toArray, List.append_toArray, List.nil_append, List.cons_append]
  gi_wp2
  exact ⟨.tuple #[.slice none 0 0, .int .i64 0], by simp [results, Tryd.results20, go_sem], ⟨Or.inl ⟨rfl, rfl⟩, ((Below.refl _ w).alloc (Nat.le_refl _) _).alloc (by simp) _⟩⟩

set_option maxHeartbeats 4000000 in
set_option maxRecDepth 100000 in
theorem parse_words (s : ByteArray) (w : World) (hp : PlainAt w) (h0 : s.data.toList ≠ []) (hs : s.size ≤ 3000000000000) :
    Calls Tryd.prog 20 #[.string s] w fun e w' => ParsePost w s.data.toList e w' := by
  refine (callsIn_wide (n := 3)).1 ?_
  refine callsIn_of_wp_marks Tryd.func20 rfl trivial ?_ rfl
  simp only [Tryd.ntmps20, List.size_toArray, List.length_cons, List.length_nil, Nat.reduceAdd, Nat.reduceSub, Array.replicate_succ, Array.replicate_zero, List.push_toArray, List.append_toArray, List.nil_append, List.cons_append]
  have hsl : (splitL s.data.toList).length ≤ s.size + 1 := by simpa using splitL_len s.data.toList
  have hne : s.toList.isEmpty = false := by
    rw [Lib.toList_data]
    cases h : s.data.toList with
    | nil => exact absurd h h0
    | cons _ _ => rfl
  gi_wp2_with (refine ⟨trivial, ?_⟩; gi_at_call 36; refine (callsIn_wide.2 (splitSeq_any _ _)).mono ?_; rintro e w3 ⟨rfl, hbx, hb3, hs3⟩)
  simp only [World.size_alloc] at hbx hb3 hs3
  have hb30 : Below w.heap.size w w3 := ((((Below.refl _ w).alloc (Nat.le_refl _) _).alloc (by simp) _).alloc (by simp; omega) _).trans (hb3.mono (by omega))
  have g0 : w3.heap[w.heap.size]? = some (.cells #[.slice none 0 0] 22 (0, 0)) := by
    rw [hb3.block _ (by omega), Below.heap_alloc _ _ _ (by simp; omega), Below.heap_alloc _ _ _ (by simp)]; exact heap_alloc_new w _
  have g1 : w3.heap[w.heap.size + 1]? = some (.cells #[.int .i64 0] 24 (0, 0)) := by
    rw [hb3.block _ (by omega), Below.heap_alloc _ _ _ (by simp)]
    have := heap_alloc_new (w.alloc (.cells #[.slice none 0 0] 22)) (.cells #[.int .i64 0] 24)
    simpa using this
  have g2 : w3.heap[w.heap.size + 2]? = some (.cells #[.slice none 0 0] 22 (0, 0)) := by
    rw [hb3.block _ (by omega)]
    have := heap_alloc_new ((w.alloc (.cells #[.slice none 0 0] 22)).alloc (.cells #[.int .i64 0] 24)) (.cells #[.slice none 0 0] 22)
    simpa using this
  have hN6 : w3.heap.size = w.heap.size + 6 := by omega
  have ST0 : Hid (∀ o1 o2, ParseSt (M := s.size) w w3.heap.size [] ((w3.alloc o1).alloc o2)) := fun o1 o2 => by
    have ha : ∀ k, k < w3.heap.size → ((w3.alloc o1).alloc o2).heap[k]? = w3.heap[k]? := fun k hk => by
      rw [Below.heap_alloc _ _ _ (by simp; omega), Below.heap_alloc _ _ _ hk]
    exact ⟨.slice none 0 0, [], [], (ha _ (by omega)).trans g2, ⟨World.ownsRow_nil _ _ _ _, fun x hx => by simp at hx⟩, rfl, rfl, rfl, (ha _ (by omega)).trans g0, (ha _ (by omega)).trans g1,
      (hb30.alloc hb30.size _).alloc (by have := hb30.size; simp; omega) _, by simp, by omega⟩
  have HBX := hid hbx
  have HP := hid hp
  have hen := enters_of (P := Tryd.prog) Tryd.func68 (by kernel_rfl) rfl
  clear hbx hp g0 g1 g2 hb3 hs3
  refine wpIn_rangeFunc_box (w := w3) rfl (by decide) (gf := 68) (lb := #[.pointer (some ⟨w.heap.size + 1 + 1 + 1 + 1, 0, none⟩), .pointer (some ⟨w.heap.size + 1 + 1 + 1, 0, none⟩), .pointer (some ⟨w.heap.size + 1 + 1 + 1 + 2, 0, none⟩)]) rfl trivial hen (Bs := w.heap.size + 1 + 1 + 1) (by omega)
    (split1_seq 2 (by decide) s.size _ _ _ s (Nat.le_refl _) (by unfold maxLen; omega) w3 HBX.out) ?hKt ?hKb (fun _ => rfl) (ParseSt w w3.heap.size) (ParseStop w w3.heap.size) ?hIp ?hIb ?hXp ST0.out
    (fun x => { tmps := #[.string s, undef, .pointer (some ⟨w.heap.size, 0, none⟩), .pointer (some ⟨w.heap.size + 1, 0, none⟩), .pointer (some ⟨w.heap.size + 1 + 1, 0, none⟩), .string x.1, undef, undef, .string s, .bool false, .string s,
      .func (.func 68) #[] #[.pointer (some ⟨w.heap.size + 1 + 1 + 1 + 1, 0, none⟩), .pointer (some ⟨w.heap.size + 1 + 1 + 1, 0, none⟩), .pointer (some ⟨w.heap.size + 1 + 1 + 1 + 2, 0, none⟩)],
      .string x.1, undef, undef, undef, undef, undef, undef, undef, undef, undef, undef, undef, undef, undef, undef, undef, undef], defers := [] }) ?assign ?body ?done ?stop
  case hKt => exact fun h k => ⟨k.1.trans h.1, k.2.1.trans h.2.1, k.2.2.trans h.2.2⟩
  case hKb => exact fun W l o' hl => ⟨World.putObj_heap_other (by omega), World.putObj_heap_other (by omega), World.putObj_heap_other (by omega)⟩
  case hIp =>
    rintro pre W o' ⟨v, d, fs, k2, hox, hf, hm, hl, k0, k1, hb, hz, h6⟩
    have hg : W.grownBy (W.putObj (w3.heap.size + 1) o') (some (w3.heap.size + 1)) := grownBy_putObj' W _ o'
    exact ⟨v, d, fs, (World.putObj_heap_other (by omega)).trans k2, hox.far hg (by omega), hf, hm, hl, (World.putObj_heap_other (by omega)).trans k0, (World.putObj_heap_other (by omega)).trans k1, hb.grown hg (by omega) (fun k e => by cases e; omega), Nat.le_trans hz hg.size, h6⟩
  case hIb =>
    rintro pre W u ⟨v, d, fs, k2, hox, hf, hm, hl, k0, k1, hb, hz, h6⟩
    have hg : W.grownBy (W.setCell ⟨w.heap.size + 1 + 1 + 1, 0, none⟩ u) (some (w.heap.size + 1 + 1 + 1)) := grown_set W _ 0 u
    exact ⟨v, d, fs, (hg.block _ (by omega) (by intro e; have := Option.some.inj e; omega)).trans k2, hox.far hg (by omega), hf, hm, hl, (hg.block _ (by omega) (by intro e; have := Option.some.inj e; omega)).trans k0, (hg.block _ (by omega) (by intro e; have := Option.some.inj e; omega)).trans k1, hb.grown hg (by omega) (fun k e => by cases e; omega), Nat.le_trans hz hg.size, h6⟩
  case hXp =>
    rintro c pre W o' ⟨hc, hf, k0, k1, hb, h6⟩
    have hg : W.grownBy (W.putObj (w3.heap.size + 1) o') (some (w3.heap.size + 1)) := grownBy_putObj' W _ o'
    exact ⟨hc, hf, (World.putObj_heap_other (by omega)).trans k0, (World.putObj_heap_other (by omega)).trans k1, ⟨hg.os.trans hb.os, hg.tape.trans hb.tape, hg.output.trans hb.output, Nat.le_trans hb.size hg.size, fun k hk => (World.putObj_heap_other (by omega)).trans (hb.block k hk)⟩, h6⟩
  case assign =>
    intro l x W K hK
    simp only [encW]
    gi_wp2
    exact hK
  case body =>
    rintro l pre x W hlW ⟨v, d, fs, k2, hox, hf, hm, hl, k0, k1, hb, hz, h6⟩ hlen
    have hxs : x.1.size ≤ 140737488355327 := Nat.le_trans x.2 (by omega)
    have hwp := word_any x.1 W (HP.out.on hb) hxs
    obtain ⟨i0, hi, hz0, hz1, hz2⟩ := info_parts Tryd.infoFld
    have hpl : plainW (pre ++ [x]) = plainW pre ++ [x.1.data.toList] := by simp [plainW]
    have HPL := hid hpl
    have HF := hid hf
    have HB := hid hb
    have HOX := hid hox
    have HK0 := hid k0
    have HK1 := hid k1
    have HK2 := hid k2
    have HM := hid hm
    have HLN := hid hl
    clear hpl hf hb hox hm hl
    cases hwo : wordO x.1.data.toList with
    | none =>
      have HW : Hid (Calls Tryd.prog 37 #[.string x.1] W fun e w' => e = .returned (.tuple #[.agg #[.string ⟨#[]⟩, .slice none 0 0], .int .i64 4]) ∧ Below W.heap.size W w') := hwp.mono (by
        rintro e w' ⟨h | ⟨n, t, h, _⟩, hb'⟩
        · exact ⟨h.2, hb'⟩
        · rw [hwo] at h; cases h)
      have HNO : Hid (fieldsW (plainW (pre ++ [x])) = none) := by
        show _ = _
        rw [HPL.out, fieldsW_append, HF.out]
        simp [fieldsW, hwo]
      clear hwp k0 k1 k2
      have HN6 := hid hN6
      clear hN6
      gi_wp2_with (refine ⟨trivial, ?_⟩; gi_at_call 37; refine (CallsIn.inRound l (callsIn_wide.2 HW.out)).mono ?_; rintro e W2 ⟨rfl, hb2⟩; have hs2 := hb2.size; have t0 := HK0.out; have t1 := HK1.out; have t0' := (Below.heap_alloc W2 (.cells #[.string ⟨#[]⟩, .slice none 0 0] 30) w.heap.size (by omega)).trans ((hb2.block w.heap.size (by omega)).trans t0); have t1' := (Below.heap_alloc W2 (.cells #[.string ⟨#[]⟩, .slice none 0 0] 30) (w.heap.size + 1) (by omega)).trans ((hb2.block (w.heap.size + 1) (by omega)).trans t1); obtain ⟨q0, q1⟩ := one_facts t0'; obtain ⟨q2, q3⟩ := one_facts t1'; have T0 := hid t0'; have T1 := hid t1'; clear t0 t1 t0' t1')
      have hbb := ((((HB.out.trans (hb2.mono HB.out.size)).alloc (Nat.le_trans HB.out.size hs2) (.cells #[.string ⟨#[]⟩, .slice none 0 0] 30)).setCell (p := ⟨w.heap.size, 0, none⟩) (Nat.le_refl _) (.slice none 0 0)).setCell (p := ⟨w.heap.size + 1, 0, none⟩) (by show _ ≤ w.heap.size + 1; omega) (.int .i64 4))
      have hkf : KeepsFrom w3.heap.size W (W2.alloc (.cells #[.string ⟨#[]⟩, .slice none 0 0] 30)) := KeepsFrom.trans (keeps_below hb2) ((KeepsOthers.alloc _ _).from _)
      exact ⟨(hkf.trans ((KeepsOthers.setCell _ _ _).from _)).trans ((KeepsOthers.setCell _ _ _).from _), rfl, HNO.out, Boxed.other (Boxed.set _ T0.out) (by omega) _, Boxed.set _ (Boxed.other T1.out (by omega) _), hbb, h6⟩
    | some o =>
      obtain ⟨n, t⟩ := o
      have HW : Hid (Calls Tryd.prog 37 #[.string x.1] W fun e w' => ∃ p, e = .returned (.tuple #[.agg #[.string ⟨n.toArray⟩, .slice p 1 1], .int .i64 0]) ∧ OwnT W.heap.size w' (.slice p 1 1) [⟨t.toArray⟩] ∧ Below W.heap.size W w') := hwp.mono (by
        rintro e w' ⟨h | ⟨n', t', h, p, h1, h2⟩, hb'⟩
        · rw [hwo] at h; cases h.1
        · rw [hwo] at h; cases h; exact ⟨p, h1, h2, hb'⟩)
      have HNO : Hid (fieldsW (plainW (pre ++ [x])) = some (fs ++ [(⟨n.toArray⟩, [⟨t.toArray⟩])])) := by
        show _ = _
        rw [HPL.out, fieldsW_append, HF.out]
        simp [fieldsW, hwo]
      clear hwp k0 k1 k2
      have HN6 := hid hN6
      clear hN6
      gi_wp2_with (first | (gi_at_builtin; refine wpListIn_append_own _ rfl _ _ 22 rfl (w3.heap.size + 2) 30 i0 (.agg #[.string ⟨#[]⟩, .slice none 0 0]) 2 40 Tryd.underlying22 hi hz0 hz1 hz2 rfl (by decide) _ _ _ rfl HX2.out.1 ⟨W2.heap.size + 1, 0, none⟩ 1 1 (cellsX [⟨⟨n.toArray⟩, p, 1, [⟨t.toArray⟩]⟩]) rfl rfl HC.out (cellsX_one _) (by rw [HLN.out]; unfold maxLen; omega) (by rw [HLN.out]; omega) (by simp; omega) ?_; intro v' w1 hown' hgrow _; obtain ⟨g', cap', rfl⟩ := ownsRow_succ hown'; have hv1 := T2.out.kept hgrow (T2.out.not_row (by decide) HX2.out.1); have hc1 := hv1.cell; have hf1 := hv1.frozen; have HV1 := hid hv1; have HO := hid hown'; have HG := hid hgrow; clear hv1 hown' hgrow) | (refine ⟨trivial, ?_⟩; gi_at_call 37; refine (CallsIn.inRound l (callsIn_wide.2 HW.out)).mono ?_; rintro e W2 ⟨p, rfl, hot, hb2⟩; have HOT := hid hot; clear hot; have hs2 := hb2.size; have t2 := HK2.out; have t2' := (Below.heap_alloc W2 (.cells #[.string ⟨n.toArray⟩, .slice p 1 1] 30) (w.heap.size + 2) (by omega)).trans ((hb2.block (w.heap.size + 2) (by omega)).trans t2); obtain ⟨q0, q1⟩ := one_facts t2'; have T2 : Hid (Boxed ((W2.alloc (.cells #[.string ⟨n.toArray⟩, .slice p 1 1] 30)).alloc (.cells #[.string ⟨n.toArray⟩, .slice p 1 1] 30)) (w.heap.size + 2) 22 v) := hid (Boxed.alloc t2' _); have HB2 : Hid (Below W.heap.size W ((W2.alloc (.cells #[.string ⟨n.toArray⟩, .slice p 1 1] 30)).alloc (.cells #[.string ⟨n.toArray⟩, .slice p 1 1] 30))) := hid ((hb2.alloc hs2 _).alloc (by simp; omega) _); have HX2 := hid (HOX.out.on HB2.out); have HC := hid (news_x (W2.alloc (.cells #[.string ⟨n.toArray⟩, .slice p 1 1] 30)) ⟨⟨n.toArray⟩, p, 1, [⟨t.toArray⟩]⟩); rw [World.size_alloc] at HC; clear t2 t2'))
      have hb12 : Below (w3.heap.size + 2) W w1 := (HB2.out.mono hz).trans ((Below.refl _ _).grown HG.out (by simp; omega) (fun k hk => (World.ownsRow.lt HX2.out.1 k hk).1))
      have hsz1 := hb12.size
      have hot2 : OwnT (w3.heap.size + 2) ((W2.alloc (.cells #[.string ⟨n.toArray⟩, .slice p 1 1] 30)).alloc (.cells #[.string ⟨n.toArray⟩, .slice p 1 1] 30)) (.slice p 1 1) [⟨t.toArray⟩] := own_weak (OwnT.on HOT.out (((Below.refl _ W2).alloc (Nat.le_refl _) _).alloc (by simp) _)) hz
      have hox1 := (HX2.out.put (x := ⟨⟨n.toArray⟩, p, 1, [⟨t.toArray⟩]⟩) hot2 HO.out HG.out).far (grown_set w1 (w.heap.size + 2) 0 (.slice (some ⟨g', 0, none⟩) (d.length + 1) cap')) (by omega)
      have hkf : KeepsFrom w3.heap.size W w1 := (keeps_below HB2.out).trans ((KeepsOthers.of_grownBy HG.out (fun j o ej hj => row_cells HX2.out.1 ej hj)).from _)
      refine ⟨hkf.trans ((KeepsOthers.setCell _ _ _).from _), ⟨(Below.heap_setCell w1 _ _ _ (by show _ ≠ w.heap.size + 1 + 1; omega)).trans (hb12.block _ (by omega)), (Below.heap_setCell w1 _ _ _ (by show _ ≠ w.heap.size + 1 + 1; omega)).trans (hb12.block _ (by omega)), (Below.heap_setCell w1 _ _ _ (by show _ ≠ w.heap.size + 1 + 1; omega)).trans (hb12.block _ (by omega))⟩, ?_⟩
      exact ⟨_, d ++ [⟨⟨n.toArray⟩, p, 1, [⟨t.toArray⟩]⟩], _, Boxed.set _ HV1.out, hox1, HNO.out, by rw [List.map_append, HM.out]; rfl, by rw [List.length_append, List.length_append, HLN.out]; rfl,
        Boxed.other ((hb12.block _ (by omega)).trans HK0.out) (by omega) _, Boxed.other ((hb12.block _ (by omega)).trans HK1.out) (by omega) _,
        (HB.out.trans (hb12.mono (by omega))).setCell (p := ⟨w.heap.size + 1 + 1, 0, none⟩) (by show _ ≤ w.heap.size + 1 + 1; omega) _, by simp [World.setCell]; omega, h6⟩
  case done =>
    rintro xs W hS ⟨v, d, fs, k2, hox, hf, hm, hl, k0, k1, hb, hz, h6⟩ hK
    have hfs : fieldsW (splitL s.data.toList) = some fs := by rw [← hS]; exact hf
    have hln : d.length = (splitL s.data.toList).length := by rw [hl]; have := congrArg List.length hS; simpa [plainW] using this
    obtain ⟨f1, f2, f3⟩ := fieldsW_len (B := s.size) (plainW xs) (fun l hl => by
      obtain ⟨x, _, rfl⟩ := List.mem_map.1 hl
      simpa using x.2) fs hf
    rw [hS] at f1 f2
    have hfit : FitX d := ⟨by unfold maxLen; omega, fun x hx => by
      have := f3 x.fld (by rw [← hm]; exact List.mem_map.2 ⟨x, hx, rfl⟩)
      refine ⟨?_, ?_, fun t ht => ?_⟩
      · unfold maxLen; omega
      · rw [this.2.1]; unfold maxLen; omega
      · have := this.2.2 t ht; unfold maxLen; omega⟩
    have hnm := norm_any v d W hox.is hfit (by omega) (by rw [hm, f2]; omega)
    have HNM : Hid (Calls Tryd.prog 7 #[v] W fun e w' => ∃ p n c k, e = .returned (.tuple #[.slice p n c, .int .i64 k]) ∧ NormAns W.heap.size d (.returned (.tuple #[.slice p n c, .int .i64 k])) w' ∧ Below W.heap.size W w') := hnm.mono (by
      intro e w' h
      obtain ⟨p, n, c, k, rfl⟩ := h.ans.shape
      exact ⟨p, n, c, k, rfl, h.ans, h.2⟩)
    obtain ⟨c2, _⟩ := one_facts k2
    have HK0 := hid k0
    have HK1 := hid k1
    have HB := hid hb
    have HK := hid hK
    have HN6 := hid hN6
    clear hnm hfit hox hf k0 k1 k2 hK hN6 hb
    gi_wp2_with (refine ⟨trivial, ?_⟩; gi_at_call 7; refine (callsIn_wide.2 HNM.out).mono ?_; rintro e W2 ⟨p, n, c, k, rfl, hans, hb2⟩; obtain ⟨q0, q1⟩ := one_facts ((hb2.block w.heap.size (by omega)).trans HK0.out); obtain ⟨q2, q3⟩ := one_facts ((hb2.block (w.heap.size + 1) (by omega)).trans HK1.out))
    have u0 : Boxed W2 w.heap.size 22 (.slice none 0 0) := (hb2.block w.heap.size (by omega)).trans HK0.out
    have u1 : Boxed W2 (w.heap.size + 1) 24 (.int .i64 0) := (hb2.block (w.heap.size + 1) (by omega)).trans HK1.out
    obtain ⟨W4, hW4⟩ : ∃ W4, (W2.setCell ⟨w.heap.size, 0, none⟩ (.slice p n c)).setCell ⟨w.heap.size + 1, 0, none⟩ (.int .i64 k) = W4 := ⟨_, rfl⟩
    have y0 : Boxed W4 w.heap.size 22 (.slice p n c) := by rw [← hW4]; exact Boxed.other (Boxed.set _ u0) (by omega) _
    have y1 : Boxed W4 (w.heap.size + 1) 24 (.int .i64 k) := by rw [← hW4]; exact Boxed.set _ (Boxed.other u1 (by omega) _)
    have hKD : W4.heap[w3.heap.size]? = some (.deferred (some [])) := by
      rw [← hW4]
      exact (Below.heap_setCell _ _ _ _ (by show _ ≠ w.heap.size + 1; omega)).trans ((Below.heap_setCell _ _ _ _ (by show _ ≠ w.heap.size; omega)).trans ((hb2.block _ (by omega)).trans HK.out))
    have hb4 : Below w.heap.size w W4 := by
      rw [← hW4]
      exact ((HB.out.trans (hb2.mono HB.out.size)).setCell (p := ⟨w.heap.size, 0, none⟩) (Nat.le_refl _) _).setCell (p := ⟨w.heap.size + 1, 0, none⟩) (by show _ ≤ w.heap.size + 1; omega) _
    have ha4 : NormAns W.heap.size d (.returned (.tuple #[.slice p n c, .int .i64 k])) W4 := by
      rw [← hW4]
      exact hans.map fun u o ho => (ho.far (grown_set W2 w.heap.size 0 _) (by omega)).far (grown_set _ (w.heap.size + 1) 0 _) (by omega)
    rw [hW4]
    have hsz4 := hb4.size
    have hg5 : W4.grownBy (W4.putObj w3.heap.size (.deferred none)) (some w3.heap.size) := grownBy_putObj' W4 _ _
    have z0 : Boxed (W4.putObj w3.heap.size (.deferred none)) w.heap.size 22 (.slice p n c) := (World.putObj_heap_other (by omega)).trans y0
    have z1 : Boxed (W4.putObj w3.heap.size (.deferred none)) (w.heap.size + 1) 24 (.int .i64 k) := (World.putObj_heap_other (by omega)).trans y1
    have z0c := z0.cell
    have z1c := z1.cell
    refine ⟨by simp, .inl ⟨_, _, rfl, run_takeDeferred hKD, ?_⟩⟩
    exact ⟨.tuple #[.slice p n c, .int .i64 k], by simp [results, Tryd.results20, go_sem, z0c, z1c], ⟨Or.inr (Or.inr ⟨h0, fs, d, hfs, hm, ha4.map fun u o ho => (ho.far hg5 (by omega)).weak (by omega)⟩), hb4.grown hg5 (by omega) (fun k e => by cases e; omega)⟩⟩
  case stop =>
    rintro c pre W hSp ⟨rfl, hf, k0, k1, hb, h6⟩ hK
    have HN6 := hid hN6
    clear hN6
    gi_wp2
    have hg5 : W.grownBy (W.putObj w3.heap.size (.deferred none)) (some w3.heap.size) := grownBy_putObj' W _ _
    have z0 : Boxed (W.putObj w3.heap.size (.deferred none)) w.heap.size 22 (.slice none 0 0) := (World.putObj_heap_other (by omega)).trans k0
    have z1 : Boxed (W.putObj w3.heap.size (.deferred none)) (w.heap.size + 1) 24 (.int .i64 4) := (World.putObj_heap_other (by omega)).trans k1
    have z0c := z0.cell
    have z1c := z1.cell
    have hno : fieldsW (splitL s.data.toList) = none := by
      obtain ⟨r, hr⟩ := hSp
      rw [← hr, fieldsW_append, hf]; rfl
    refine ⟨by simp, .inl ⟨_, _, rfl, run_takeDeferred hK, ?_⟩⟩
    exact ⟨.tuple #[.slice none 0 0, .int .i64 4], by simp [results, Tryd.results20, go_sem, z0c, z1c], ⟨Or.inr (Or.inl ⟨h0, hno, rfl⟩), hb.grown hg5 hb.size (fun k e => by cases e; omega)⟩⟩

theorem parse_any (s : ByteArray) (w : World) (hp : PlainAt w) (hs : s.size ≤ 3000000000000) :
    Calls Tryd.prog 20 #[.string s] w fun e w' => ParsePost w s.data.toList e w' := by
  by_cases h0 : s.data.toList = []
  · have e : s = ⟨#[]⟩ := by
      obtain ⟨⟨l⟩⟩ := s
      cases h0
      rfl
    subst e
    exact parse_empty w
  · exact parse_words s w hp h0 hs

end Go.Proofs.YtmjchokacmbkoabDoor
