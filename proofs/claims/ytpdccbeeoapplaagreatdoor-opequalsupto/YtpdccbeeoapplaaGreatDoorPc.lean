/-
  Texts of this claim, one behind the other: Par Uni Wri Pri Fix0 Fix Byt Rwr Sze0 Rpr Rp6 Grp Rnm Rnn Sam Ncd Nms Rrd Txs Lin0 Rwd Rp7 Rp8 Rs0 Edm Edd Re0 Edl Spk Kys Opm Opb Opc Ope Oph Opn Opo Oqs.
-/
import Derived.Test.YtpdccbeeoapplaaGreatDoorPb
import Derived.Test.YtpdccbeeoapplaaGreatDoorPa
import Derived.Lib.Join
import Derived.Deep.CutRange
import Derived.Laws.Runes
import Derived.Laws.StructEq
namespace Go.Proofs.YtpdccbeeoapplaaGreatDoor
open Go.RowKit
attribute [local go_sem] Oper.semAt_some
def fieldsW : List (List UInt8) → Option (List Fld)
  | [] => some []
  | l :: r => match wordO l with
    | none => none
    | some (n, t) => (fieldsW r).map ((⟨n.toArray⟩, [⟨t.toArray⟩]) :: ·)
theorem fieldsW_append (a b : List (List UInt8)) : fieldsW (a ++ b) = (fieldsW a).bind fun x => (fieldsW b).map (x ++ ·) := by
  induction a with
  | nil => simp [fieldsW]
  | cons l a ih =>
    simp only [List.cons_append, fieldsW]
    cases wordO l with
    | none => rfl
    | some o =>
      obtain ⟨n, t⟩ := o
      simp only [ih]
      cases fieldsW a with
      | none => rfl
      | some x => cases fieldsW b <;> simp
def ParseSt {M : Nat} (w : World) (N : Nat) (pre : List (Wd M)) (W : World) : Prop :=
  ∃ v d fs, W.heap[w.heap.size + 2]? = some (.cells #[v] 36 (0, 0)) ∧ OwnXs (N + 2) W v d ∧ fieldsW (plainW pre) = some fs ∧ d.map Fx.fld = fs ∧ d.length = pre.length ∧
    W.heap[w.heap.size]? = some (.cells #[.slice none 0 0] 36 (0, 0)) ∧ W.heap[w.heap.size + 1]? = some (.cells #[.int .i64 0] 26 (0, 0)) ∧ Below w.heap.size w W ∧ N + 2 ≤ W.heap.size ∧ w.heap.size + 6 ≤ N
def ParseStop {M : Nat} (w : World) (N : Nat) (c : Code) (pre : List (Wd M)) (W : World) : Prop :=
  c = .ret ∧ fieldsW (plainW pre) = none ∧ W.heap[w.heap.size]? = some (.cells #[.slice none 0 0] 36 (0, 0)) ∧ W.heap[w.heap.size + 1]? = some (.cells #[.int .i64 4] 26 (0, 0)) ∧ Below w.heap.size w W ∧ w.heap.size + 6 ≤ N
def NormAns (N : Nat) (d : List Fx) (e : Ending) (w' : World) : Prop :=
  ((d.map Fx.fld).any misB = true ∧ e = .returned (.tuple #[.slice none 0 0, .int .i64 2])) ∨
   ((d.map Fx.fld).any misB = false ∧ ∃ ds, SortOf d ds ∧
     (((joinS (ds.map Fx.fld)).any bareB = true ∧ e = .returned (.tuple #[.slice none 0 0, .int .i64 3])) ∨
      ((joinS (ds.map Fx.fld)).any bareB = false ∧ mayB (joinS (ds.map Fx.fld)) = false ∧ e = .returned (.tuple #[.slice none 0 0, .int .i64 5])) ∨
      ((joinS (ds.map Fx.fld)).any bareB = false ∧ mayB (joinS (ds.map Fx.fld)) = true ∧ ∃ u o, e = .returned (.tuple #[u, .int .i64 0]) ∧ OwnJ N w' u o ∧ o.map Fx.fld = joinS (ds.map Fx.fld))))
theorem NormPost.ans {w w' : World} {d : List Fx} {e : Ending} (h : NormPost w d e w') : NormAns w.heap.size d e w' := h.1
theorem OwnJ.far {N R : Nat} {w w' : World} {v : Value} {o : List Fx} (h : OwnJ N w v o) (hg : w.grownBy w' (some R)) (hR : R < N) : OwnJ N w' v o := ⟨h.1.far hg hR, h.2⟩
theorem OwnJ.weak {N N' : Nat} {w : World} {v : Value} {o : List Fx} (h : OwnJ N w v o) (hN : N' ≤ N) : OwnJ N' w v o := ⟨⟨own_weak h.1.1 hN, fun x hx => own_weak (h.1.2 x hx) hN⟩, h.2⟩
theorem NormAns.map {N N' : Nat} {d : List Fx} {e : Ending} {w w' : World} (h : NormAns N d e w) (f : ∀ u o, OwnJ N w u o → OwnJ N' w' u o) : NormAns N' d e w' := by
  rcases h with h | ⟨h1, ds, h2, h3⟩
  · exact Or.inl h
  · refine Or.inr ⟨h1, ds, h2, ?_⟩
    rcases h3 with h3 | h3 | ⟨h3, h4, u, o, h5, h6, h7⟩
    · exact Or.inl h3
    · exact Or.inr (Or.inl h3)
    · exact Or.inr (Or.inr ⟨h3, h4, u, o, h5, f _ _ h6, h7⟩)
theorem NormAns.shape {N : Nat} {d : List Fx} {e : Ending} {w : World} (h : NormAns N d e w) : ∃ p n c k, e = .returned (.tuple #[.slice p n c, .int .i64 k]) := by
  rcases h with ⟨_, h⟩ | ⟨_, ds, _, ⟨_, h⟩ | ⟨_, _, h⟩ | ⟨_, _, u, o, h, ho, _⟩⟩
  · exact ⟨_, _, _, _, h⟩
  · exact ⟨_, _, _, _, h⟩
  · exact ⟨_, _, _, _, h⟩
  · rcases ho.1.1.2 with ⟨rfl, _⟩ | ⟨g, cap, cur, rfl, _⟩
    · exact ⟨_, _, _, _, h⟩
    · exact ⟨_, _, _, _, h⟩
def ParsePost (w : World) (l : List UInt8) (e : Ending) (w' : World) : Prop :=
  ((l = [] ∧ e = .returned (.tuple #[.slice none 0 0, .int .i64 0])) ∨
   (l ≠ [] ∧ fieldsW (splitL l) = none ∧ e = .returned (.tuple #[.slice none 0 0, .int .i64 4])) ∨
   (l ≠ [] ∧ ∃ fs d, fieldsW (splitL l) = some fs ∧ d.map Fx.fld = fs ∧ NormAns w.heap.size d e w')) ∧ Below w.heap.size w w'
theorem splitL_len (l : List UInt8) : (splitL l).length ≤ l.length + 1 := by
  induction h : l.length using Nat.strongRecOn generalizing l with
  | _ k ih =>
    subst h
    rcases ix_cases l 32 with ⟨h, _⟩ | ⟨i, h, hi, _⟩
    · rw [splitL_no h]; simp
    · rw [splitL_yes h, List.length_cons]
      have := ih (l.drop (i + 1)).length (by simp; omega) _ rfl
      simp at this ⊢
      omega
theorem wordO_len {l n t : List UInt8} (h : wordO l = some (n, t)) : n.length ≤ l.length ∧ t.length ≤ l.length := by
  unfold wordO at h
  split at h
  · cases h
  · cases hr : readL (l.drop ((Lib.indexByte l 61).toNat + 1)) with
    | none => rw [hr] at h; cases h
    | some m =>
      rw [hr] at h
      simp only [Option.map_some, Option.some.injEq, Prod.mk.injEq] at h
      obtain ⟨rfl, rfl⟩ := h
      have := readL_len _ _ _ (Nat.le_refl _) hr
      simp at this ⊢
      omega
theorem fieldsW_len {B : Nat} (ls : List (List UInt8)) (hB : ∀ l ∈ ls, l.length ≤ B) : ∀ fs, fieldsW ls = some fs → fs.length = ls.length ∧ totF fs = ls.length ∧ ∀ f ∈ fs, f.1.size ≤ B ∧ f.2.length = 1 ∧ ∀ t ∈ f.2, t.size ≤ B := by
  induction ls with
  | nil => intro fs h; cases h; exact ⟨rfl, rfl, fun f hf => by simp at hf⟩
  | cons l ls ih =>
    intro fs h
    simp only [fieldsW] at h
    cases ho : wordO l with
    | none => rw [ho] at h; cases h
    | some o =>
      obtain ⟨n, t⟩ := o
      rw [ho] at h
      cases hr : fieldsW ls with
      | none => rw [hr] at h; cases h
      | some gs =>
        rw [hr] at h
        cases h
        obtain ⟨h1, h2, h3⟩ := ih (fun l' hl' => hB l' (by simp [hl'])) gs hr
        obtain ⟨hn, ht⟩ := wordO_len ho
        have hl := hB l (by simp)
        refine ⟨by simp [h1], ?_, fun f hf => ?_⟩
        · simp only [totF, List.map_cons, List.sum_cons, List.length_cons, List.length_nil] at h2 ⊢
          omega
        · rw [List.mem_cons] at hf
          rcases hf with rfl | hf
          · refine ⟨?_, rfl, fun u hu => ?_⟩
            · show (ByteArray.mk _).size ≤ B
              simp [ByteArray.size]; omega
            · simp at hu; subst hu; simp [ByteArray.size]; omega
          · exact h3 f hf
theorem one_facts {w : World} {B : Nat} {u : Value} {T : TypeId} (h : w.heap[B]? = some (.cells #[u] T (0, 0))) : w.cell? ⟨B, 0, none⟩ = some u ∧ w.frozen? ⟨B, 0, none⟩ = false :=
  ⟨by rw [Lib.cell_of_heap h]; rfl, Lib.frozen_of_heap h 0⟩
theorem keeps_below {B : Nat} {W W' : World} (h : Below W.heap.size W W') : KeepsFrom B W W' :=
  ⟨h.size, fun k _ _ hk _ => (h.block k (Array.getElem?_eq_some_iff.1 hk).1).trans hk⟩
theorem row_cells {w : World} {base n k : Nat} {e : TypeId} {v : Value} {xs : List Value} {j : Nat} {o : Obj} (h : w.ownsRow base e n v k xs) (ej : v.ownBlock = some j) (hj : w.heap[j]? = some o) : o.isCells = true := by
  rcases h.2 with ⟨rfl, _⟩ | ⟨g, cap, cur, rfl, _, hgb, _⟩
  · simp [Value.ownBlock] at ej
  · obtain rfl : g = j := by simpa [Value.ownBlock] using ej
    rw [hgb] at hj; cases hj; rfl
set_option maxHeartbeats 1000000 in
theorem parse_empty (w : World) : Calls Tryz.prog 96 #[.string ⟨#[]⟩] w fun e w' => ParsePost w [] e w' := by
  refine (callsIn_wide (n := 3)).1 ?_
  refine callsIn_of_wp_marks Tryz.func96 rfl trivial ?_ rfl
  simp only [Tryz.ntmps96, List.size_toArray, List.length_cons, List.length_nil, Nat.reduceAdd, Nat.reduceSub, Array.replicate_succ, Array.replicate_zero, List.push_toArray, List.append_toArray, List.nil_append, List.cons_append]
  gi_wp2
  exact ⟨.tuple #[.slice none 0 0, .int .i64 0], by simp [results, Tryz.results96, go_sem], ⟨Or.inl ⟨rfl, rfl⟩, ((Below.refl _ w).alloc (Nat.le_refl _) _).alloc (by simp) _⟩⟩
set_option maxHeartbeats 4000000 in
set_option maxRecDepth 100000 in
theorem parse_words (s : ByteArray) (w : World) (hp : PlainAt w) (h0 : s.data.toList ≠ []) (hs : s.size ≤ 3000000000000) :
    Calls Tryz.prog 96 #[.string s] w fun e w' => ParsePost w s.data.toList e w' := by
  refine (callsIn_wide (n := 3)).1 ?_
  refine callsIn_of_wp_marks Tryz.func96 rfl trivial ?_ rfl
  simp only [Tryz.ntmps96, List.size_toArray, List.length_cons, List.length_nil, Nat.reduceAdd, Nat.reduceSub, Array.replicate_succ, Array.replicate_zero, List.push_toArray, List.append_toArray, List.nil_append, List.cons_append]
  have hsl : (splitL s.data.toList).length ≤ s.size + 1 := by simpa using splitL_len s.data.toList
  have hne : s.toList.isEmpty = false := by
    rw [Lib.toList_data]
    cases h : s.data.toList with
    | nil => exact absurd h h0
    | cons _ _ => rfl
  gi_wp2_with (refine ⟨trivial, ?_⟩; gi_at_call 25; refine (callsIn_wide.2 (splitSeq_any _ _)).mono ?_; rintro e w3 ⟨rfl, hbx, hb3, hs3⟩)
  simp only [World.size_alloc] at hbx hb3 hs3
  have hb30 : Below w.heap.size w w3 := ((((Below.refl _ w).alloc (Nat.le_refl _) _).alloc (by simp) _).alloc (by simp; omega) _).trans (hb3.mono (by omega))
  have g0 : w3.heap[w.heap.size]? = some (.cells #[.slice none 0 0] 36 (0, 0)) := by
    rw [hb3.block _ (by omega), Below.heap_alloc _ _ _ (by simp; omega), Below.heap_alloc _ _ _ (by simp)]; exact heap_alloc_new w _
  have g1 : w3.heap[w.heap.size + 1]? = some (.cells #[.int .i64 0] 26 (0, 0)) := by
    rw [hb3.block _ (by omega), Below.heap_alloc _ _ _ (by simp)]
    have := heap_alloc_new (w.alloc (.cells #[.slice none 0 0] 36)) (.cells #[.int .i64 0] 26)
    simpa using this
  have g2 : w3.heap[w.heap.size + 2]? = some (.cells #[.slice none 0 0] 36 (0, 0)) := by
    rw [hb3.block _ (by omega)]
    have := heap_alloc_new ((w.alloc (.cells #[.slice none 0 0] 36)).alloc (.cells #[.int .i64 0] 26)) (.cells #[.slice none 0 0] 36)
    simpa using this
  have hN6 : w3.heap.size = w.heap.size + 6 := by omega
  have ST0 : Hid (∀ o1 o2, ParseSt (M := s.size) w w3.heap.size [] ((w3.alloc o1).alloc o2)) := fun o1 o2 => by
    have ha : ∀ k, k < w3.heap.size → ((w3.alloc o1).alloc o2).heap[k]? = w3.heap[k]? := fun k hk => by
      rw [Below.heap_alloc _ _ _ (by simp; omega), Below.heap_alloc _ _ _ hk]
    exact ⟨.slice none 0 0, [], [], (ha _ (by omega)).trans g2, ⟨World.ownsRow_nil _ _ _ _, fun x hx => by simp at hx⟩, rfl, rfl, rfl, (ha _ (by omega)).trans g0, (ha _ (by omega)).trans g1,
      (hb30.alloc hb30.size _).alloc (by have := hb30.size; simp; omega) _, by simp, by omega⟩
  have HBX := hid hbx
  have HP := hid hp
  have hen := enters_of (P := Tryz.prog) Tryz.func87 (by kernel_rfl) rfl
  clear hbx hp g0 g1 g2 hb3 hs3
  refine wpIn_rangeFunc_box (w := w3) rfl (by decide) (gf := 87) (lb := #[.pointer (some ⟨w.heap.size + 1 + 1 + 1 + 1, 0, none⟩), .pointer (some ⟨w.heap.size + 1 + 1 + 1, 0, none⟩), .pointer (some ⟨w.heap.size + 1 + 1 + 1 + 2, 0, none⟩)]) rfl trivial hen (Bs := w.heap.size + 1 + 1 + 1) (by omega)
    (split1_seq 2 (by decide) s.size _ _ _ s (Nat.le_refl _) (by unfold maxLen; omega) w3 HBX.out) ?hKt ?hKb (fun _ => rfl) (ParseSt w w3.heap.size) (ParseStop w w3.heap.size) ?hIp ?hIb ?hXp ST0.out
    (fun x => { tmps := #[.string s, undef, .pointer (some ⟨w.heap.size, 0, none⟩), .pointer (some ⟨w.heap.size + 1, 0, none⟩), .pointer (some ⟨w.heap.size + 1 + 1, 0, none⟩), .string x.1, undef, undef, .string s, .bool false, .string s,
      .func (.func 87) #[] #[.pointer (some ⟨w.heap.size + 1 + 1 + 1 + 1, 0, none⟩), .pointer (some ⟨w.heap.size + 1 + 1 + 1, 0, none⟩), .pointer (some ⟨w.heap.size + 1 + 1 + 1 + 2, 0, none⟩)],
      .string x.1, undef, undef, undef, undef, undef, undef, undef, undef, undef, undef, undef, undef, undef, undef, undef, undef], defers := [] }) ?assign ?body ?done ?stop
  case hKt => exact fun h k => ⟨k.1.trans h.1, k.2.1.trans h.2.1, k.2.2.trans h.2.2⟩
  case hKb => exact fun W l o' hl => ⟨World.putObj_heap_other (by omega), World.putObj_heap_other (by omega), World.putObj_heap_other (by omega)⟩
  case hIp =>
    rintro pre W o' ⟨v, d, fs, k2, hox, hf, hm, hl, k0, k1, hb, hz, h6⟩
    have hg : W.grownBy (W.putObj (w3.heap.size + 1) o') (some (w3.heap.size + 1)) := grownBy_putObj' W _ o'
    exact ⟨v, d, fs, (World.putObj_heap_other (by omega)).trans k2, hox.far hg (by omega), hf, hm, hl, (World.putObj_heap_other (by omega)).trans k0, (World.putObj_heap_other (by omega)).trans k1, hb.grown hg (by omega) (fun k e => by cases e; omega), Nat.le_trans hz hg.size, h6⟩
  case hIb =>
    rintro pre W u ⟨v, d, fs, k2, hox, hf, hm, hl, k0, k1, hb, hz, h6⟩
    have hg : W.grownBy (W.setCell ⟨w.heap.size + 1 + 1 + 1, 0, none⟩ u) (some (w.heap.size + 1 + 1 + 1)) := grown_set W _ 0 u
    exact ⟨v, d, fs, (hg.block _ (by omega) (by intro e; have := Option.some.inj e; omega)).trans k2, hox.far hg (by omega), hf, hm, hl, (hg.block _ (by omega) (by intro e; have := Option.some.inj e; omega)).trans k0, (hg.block _ (by omega) (by intro e; have := Option.some.inj e; omega)).trans k1, hb.grown hg (by omega) (fun k e => by cases e; omega), Nat.le_trans hz hg.size, h6⟩
  case hXp =>
    rintro c pre W o' ⟨hc, hf, k0, k1, hb, h6⟩
    have hg : W.grownBy (W.putObj (w3.heap.size + 1) o') (some (w3.heap.size + 1)) := grownBy_putObj' W _ o'
    exact ⟨hc, hf, (World.putObj_heap_other (by omega)).trans k0, (World.putObj_heap_other (by omega)).trans k1, ⟨hg.os.trans hb.os, hg.tape.trans hb.tape, hg.output.trans hb.output, Nat.le_trans hb.size hg.size, fun k hk => (World.putObj_heap_other (by omega)).trans (hb.block k hk)⟩, h6⟩
  case assign =>
    intro l x W K hK
    simp only [encW]
    gi_wp2
    exact hK
  case body =>
    rintro l pre x W hlW ⟨v, d, fs, k2, hox, hf, hm, hl, k0, k1, hb, hz, h6⟩ hlen
    have hxs : x.1.size ≤ 140737488355327 := Nat.le_trans x.2 (by omega)
    have hwp := word_any x.1 W (HP.out.on hb) hxs
    obtain ⟨i0, hi, hz0, hz1, hz2⟩ := info_parts Tryz.infoFld
    have hpl : plainW (pre ++ [x]) = plainW pre ++ [x.1.data.toList] := by simp [plainW]
    have HPL := hid hpl
    have HF := hid hf
    have HB := hid hb
    have HOX := hid hox
    have HK0 := hid k0
    have HK1 := hid k1
    have HK2 := hid k2
    have HM := hid hm
    have HLN := hid hl
    clear hpl hf hb hox hm hl
    cases hwo : wordO x.1.data.toList with
    | none =>
      have HW : Hid (Calls Tryz.prog 139 #[.string x.1] W fun e w' => e = .returned (.tuple #[.agg #[.string ⟨#[]⟩, .slice none 0 0], .int .i64 4]) ∧ Below W.heap.size W w') := hwp.mono (by
        rintro e w' ⟨h | ⟨n, t, h, _⟩, hb'⟩
        · exact ⟨h.2, hb'⟩
        · rw [hwo] at h; cases h)
      have HNO : Hid (fieldsW (plainW (pre ++ [x])) = none) := by
        show _ = _
        rw [HPL.out, fieldsW_append, HF.out]
        simp [fieldsW, hwo]
      clear hwp k0 k1 k2
      have HN6 := hid hN6
      clear hN6
      gi_wp2_with (refine ⟨trivial, ?_⟩; gi_at_call 139; refine (CallsIn.inRound l (callsIn_wide.2 HW.out)).mono ?_; rintro e W2 ⟨rfl, hb2⟩; have hs2 := hb2.size; have t0 := HK0.out; have t1 := HK1.out; have t0' := (Below.heap_alloc W2 (.cells #[.string ⟨#[]⟩, .slice none 0 0] 47) w.heap.size (by omega)).trans ((hb2.block w.heap.size (by omega)).trans t0); have t1' := (Below.heap_alloc W2 (.cells #[.string ⟨#[]⟩, .slice none 0 0] 47) (w.heap.size + 1) (by omega)).trans ((hb2.block (w.heap.size + 1) (by omega)).trans t1); obtain ⟨q0, q1⟩ := one_facts t0'; obtain ⟨q2, q3⟩ := one_facts t1'; have T0 := hid t0'; have T1 := hid t1'; clear t0 t1 t0' t1')
      have hbb := ((((HB.out.trans (hb2.mono HB.out.size)).alloc (Nat.le_trans HB.out.size hs2) (.cells #[.string ⟨#[]⟩, .slice none 0 0] 47)).setCell (p := ⟨w.heap.size, 0, none⟩) (Nat.le_refl _) (.slice none 0 0)).setCell (p := ⟨w.heap.size + 1, 0, none⟩) (by show _ ≤ w.heap.size + 1; omega) (.int .i64 4))
      have hkf : KeepsFrom w3.heap.size W (W2.alloc (.cells #[.string ⟨#[]⟩, .slice none 0 0] 47)) := KeepsFrom.trans (keeps_below hb2) ((KeepsOthers.alloc _ _).from _)
      exact ⟨(hkf.trans ((KeepsOthers.setCell _ _ _).from _)).trans ((KeepsOthers.setCell _ _ _).from _), rfl, HNO.out, Boxed.other (Boxed.set _ T0.out) (by omega) _, Boxed.set _ (Boxed.other T1.out (by omega) _), hbb, h6⟩
    | some o =>
      obtain ⟨n, t⟩ := o
      have HW : Hid (Calls Tryz.prog 139 #[.string x.1] W fun e w' => ∃ p, e = .returned (.tuple #[.agg #[.string ⟨n.toArray⟩, .slice p 1 1], .int .i64 0]) ∧ OwnT W.heap.size w' (.slice p 1 1) [⟨t.toArray⟩] ∧ Below W.heap.size W w') := hwp.mono (by
        rintro e w' ⟨h | ⟨n', t', h, p, h1, h2⟩, hb'⟩
        · rw [hwo] at h; cases h.1
        · rw [hwo] at h; cases h; exact ⟨p, h1, h2, hb'⟩)
      have HNO : Hid (fieldsW (plainW (pre ++ [x])) = some (fs ++ [(⟨n.toArray⟩, [⟨t.toArray⟩])])) := by
        show _ = _
        rw [HPL.out, fieldsW_append, HF.out]
        simp [fieldsW, hwo]
      clear hwp k0 k1 k2
      have HN6 := hid hN6
      clear hN6
      gi_wp2_with (first | (gi_at_builtin; refine wpListIn_append_own _ rfl _ _ 36 rfl (w3.heap.size + 2) 47 i0 (.agg #[.string ⟨#[]⟩, .slice none 0 0]) 2 40 Tryz.underlying36 hi hz0 hz1 hz2 rfl (by decide) _ _ _ rfl HX2.out.1 ⟨W2.heap.size + 1, 0, none⟩ 1 1 (cellsX [⟨⟨n.toArray⟩, p, 1, [⟨t.toArray⟩]⟩]) rfl rfl HC.out (cellsX_one _) (by rw [HLN.out]; unfold maxLen; omega) (by rw [HLN.out]; omega) (by simp; omega) ?_; intro v' w1 hown' hgrow _; obtain ⟨g', cap', rfl⟩ := ownsRow_succ hown'; have hv1 := T2.out.kept hgrow (T2.out.not_row (by decide) HX2.out.1); have hc1 := hv1.cell; have hf1 := hv1.frozen; have HV1 := hid hv1; have HO := hid hown'; have HG := hid hgrow; clear hv1 hown' hgrow) | (refine ⟨trivial, ?_⟩; gi_at_call 139; refine (CallsIn.inRound l (callsIn_wide.2 HW.out)).mono ?_; rintro e W2 ⟨p, rfl, hot, hb2⟩; have HOT := hid hot; clear hot; have hs2 := hb2.size; have t2 := HK2.out; have t2' := (Below.heap_alloc W2 (.cells #[.string ⟨n.toArray⟩, .slice p 1 1] 47) (w.heap.size + 2) (by omega)).trans ((hb2.block (w.heap.size + 2) (by omega)).trans t2); obtain ⟨q0, q1⟩ := one_facts t2'; have T2 : Hid (Boxed ((W2.alloc (.cells #[.string ⟨n.toArray⟩, .slice p 1 1] 47)).alloc (.cells #[.string ⟨n.toArray⟩, .slice p 1 1] 47)) (w.heap.size + 2) 36 v) := hid (Boxed.alloc t2' _); have HB2 : Hid (Below W.heap.size W ((W2.alloc (.cells #[.string ⟨n.toArray⟩, .slice p 1 1] 47)).alloc (.cells #[.string ⟨n.toArray⟩, .slice p 1 1] 47))) := hid ((hb2.alloc hs2 _).alloc (by simp; omega) _); have HX2 := hid (HOX.out.on HB2.out); have HC := hid (news_x (W2.alloc (.cells #[.string ⟨n.toArray⟩, .slice p 1 1] 47)) ⟨⟨n.toArray⟩, p, 1, [⟨t.toArray⟩]⟩); rw [World.size_alloc] at HC; clear t2 t2'))
      have hb12 : Below (w3.heap.size + 2) W w1 := (HB2.out.mono hz).trans ((Below.refl _ _).grown HG.out (by simp; omega) (fun k hk => (World.ownsRow.lt HX2.out.1 k hk).1))
      have hsz1 := hb12.size
      have hot2 : OwnT (w3.heap.size + 2) ((W2.alloc (.cells #[.string ⟨n.toArray⟩, .slice p 1 1] 47)).alloc (.cells #[.string ⟨n.toArray⟩, .slice p 1 1] 47)) (.slice p 1 1) [⟨t.toArray⟩] := own_weak (OwnT.on HOT.out (((Below.refl _ W2).alloc (Nat.le_refl _) _).alloc (by simp) _)) hz
      have hox1 := (HX2.out.put (x := ⟨⟨n.toArray⟩, p, 1, [⟨t.toArray⟩]⟩) hot2 HO.out HG.out).far (grown_set w1 (w.heap.size + 2) 0 (.slice (some ⟨g', 0, none⟩) (d.length + 1) cap')) (by omega)
      have hkf : KeepsFrom w3.heap.size W w1 := (keeps_below HB2.out).trans ((KeepsOthers.of_grownBy HG.out (fun j o ej hj => row_cells HX2.out.1 ej hj)).from _)
      refine ⟨hkf.trans ((KeepsOthers.setCell _ _ _).from _), ⟨(Below.heap_setCell w1 _ _ _ (by show _ ≠ w.heap.size + 1 + 1; omega)).trans (hb12.block _ (by omega)), (Below.heap_setCell w1 _ _ _ (by show _ ≠ w.heap.size + 1 + 1; omega)).trans (hb12.block _ (by omega)), (Below.heap_setCell w1 _ _ _ (by show _ ≠ w.heap.size + 1 + 1; omega)).trans (hb12.block _ (by omega))⟩, ?_⟩
      exact ⟨_, d ++ [⟨⟨n.toArray⟩, p, 1, [⟨t.toArray⟩]⟩], _, Boxed.set _ HV1.out, hox1, HNO.out, by rw [List.map_append, HM.out]; rfl, by rw [List.length_append, List.length_append, HLN.out]; rfl,
        Boxed.other ((hb12.block _ (by omega)).trans HK0.out) (by omega) _, Boxed.other ((hb12.block _ (by omega)).trans HK1.out) (by omega) _,
        (HB.out.trans (hb12.mono (by omega))).setCell (p := ⟨w.heap.size + 1 + 1, 0, none⟩) (by show _ ≤ w.heap.size + 1 + 1; omega) _, by simp [World.setCell]; omega, h6⟩
  case done =>
    rintro xs W hS ⟨v, d, fs, k2, hox, hf, hm, hl, k0, k1, hb, hz, h6⟩ hK
    have hfs : fieldsW (splitL s.data.toList) = some fs := by rw [← hS]; exact hf
    have hln : d.length = (splitL s.data.toList).length := by rw [hl]; have := congrArg List.length hS; simpa [plainW] using this
    obtain ⟨f1, f2, f3⟩ := fieldsW_len (B := s.size) (plainW xs) (fun l hl => by
      obtain ⟨x, _, rfl⟩ := List.mem_map.1 hl
      simpa using x.2) fs hf
    rw [hS] at f1 f2
    have hfit : FitX d := ⟨by unfold maxLen; omega, fun x hx => by
      have := f3 x.fld (by rw [← hm]; exact List.mem_map.2 ⟨x, hx, rfl⟩)
      refine ⟨?_, ?_, fun t ht => ?_⟩
      · unfold maxLen; omega
      · rw [this.2.1]; unfold maxLen; omega
      · have := this.2.2 t ht; unfold maxLen; omega⟩
    have hnm := norm_any v d W hox.is hfit (by omega) (by rw [hm, f2]; omega)
    have HNM : Hid (Calls Tryz.prog 140 #[v] W fun e w' => ∃ p n c k, e = .returned (.tuple #[.slice p n c, .int .i64 k]) ∧ NormAns W.heap.size d (.returned (.tuple #[.slice p n c, .int .i64 k])) w' ∧ Below W.heap.size W w') := hnm.mono (by
      intro e w' h
      obtain ⟨p, n, c, k, rfl⟩ := h.ans.shape
      exact ⟨p, n, c, k, rfl, h.ans, h.2⟩)
    obtain ⟨c2, _⟩ := one_facts k2
    have HK0 := hid k0
    have HK1 := hid k1
    have HB := hid hb
    have HK := hid hK
    have HN6 := hid hN6
    clear hnm hfit hox hf k0 k1 k2 hK hN6 hb
    gi_wp2_with (refine ⟨trivial, ?_⟩; gi_at_call 140; refine (callsIn_wide.2 HNM.out).mono ?_; rintro e W2 ⟨p, n, c, k, rfl, hans, hb2⟩; obtain ⟨q0, q1⟩ := one_facts ((hb2.block w.heap.size (by omega)).trans HK0.out); obtain ⟨q2, q3⟩ := one_facts ((hb2.block (w.heap.size + 1) (by omega)).trans HK1.out))
    have u0 : Boxed W2 w.heap.size 36 (.slice none 0 0) := (hb2.block w.heap.size (by omega)).trans HK0.out
    have u1 : Boxed W2 (w.heap.size + 1) 26 (.int .i64 0) := (hb2.block (w.heap.size + 1) (by omega)).trans HK1.out
    obtain ⟨W4, hW4⟩ : ∃ W4, (W2.setCell ⟨w.heap.size, 0, none⟩ (.slice p n c)).setCell ⟨w.heap.size + 1, 0, none⟩ (.int .i64 k) = W4 := ⟨_, rfl⟩
    have y0 : Boxed W4 w.heap.size 36 (.slice p n c) := by rw [← hW4]; exact Boxed.other (Boxed.set _ u0) (by omega) _
    have y1 : Boxed W4 (w.heap.size + 1) 26 (.int .i64 k) := by rw [← hW4]; exact Boxed.set _ (Boxed.other u1 (by omega) _)
    have hKD : W4.heap[w3.heap.size]? = some (.deferred (some [])) := by
      rw [← hW4]
      exact (Below.heap_setCell _ _ _ _ (by show _ ≠ w.heap.size + 1; omega)).trans ((Below.heap_setCell _ _ _ _ (by show _ ≠ w.heap.size; omega)).trans ((hb2.block _ (by omega)).trans HK.out))
    have hb4 : Below w.heap.size w W4 := by
      rw [← hW4]
      exact ((HB.out.trans (hb2.mono HB.out.size)).setCell (p := ⟨w.heap.size, 0, none⟩) (Nat.le_refl _) _).setCell (p := ⟨w.heap.size + 1, 0, none⟩) (by show _ ≤ w.heap.size + 1; omega) _
    have ha4 : NormAns W.heap.size d (.returned (.tuple #[.slice p n c, .int .i64 k])) W4 := by
      rw [← hW4]
      exact hans.map fun u o ho => (ho.far (grown_set W2 w.heap.size 0 _) (by omega)).far (grown_set _ (w.heap.size + 1) 0 _) (by omega)
    rw [hW4]
    have hsz4 := hb4.size
    have hg5 : W4.grownBy (W4.putObj w3.heap.size (.deferred none)) (some w3.heap.size) := grownBy_putObj' W4 _ _
    have z0 : Boxed (W4.putObj w3.heap.size (.deferred none)) w.heap.size 36 (.slice p n c) := (World.putObj_heap_other (by omega)).trans y0
    have z1 : Boxed (W4.putObj w3.heap.size (.deferred none)) (w.heap.size + 1) 26 (.int .i64 k) := (World.putObj_heap_other (by omega)).trans y1
    have z0c := z0.cell
    have z1c := z1.cell
    refine ⟨by simp, .inl ⟨_, _, rfl, run_takeDeferred hKD, ?_⟩⟩
    exact ⟨.tuple #[.slice p n c, .int .i64 k], by simp [results, Tryz.results96, go_sem, z0c, z1c], ⟨Or.inr (Or.inr ⟨h0, fs, d, hfs, hm, ha4.map fun u o ho => (ho.far hg5 (by omega)).weak (by omega)⟩), hb4.grown hg5 (by omega) (fun k e => by cases e; omega)⟩⟩
  case stop =>
    rintro c pre W hSp ⟨rfl, hf, k0, k1, hb, h6⟩ hK
    have HN6 := hid hN6
    clear hN6
    gi_wp2
    have hg5 : W.grownBy (W.putObj w3.heap.size (.deferred none)) (some w3.heap.size) := grownBy_putObj' W _ _
    have z0 : Boxed (W.putObj w3.heap.size (.deferred none)) w.heap.size 36 (.slice none 0 0) := (World.putObj_heap_other (by omega)).trans k0
    have z1 : Boxed (W.putObj w3.heap.size (.deferred none)) (w.heap.size + 1) 26 (.int .i64 4) := (World.putObj_heap_other (by omega)).trans k1
    have z0c := z0.cell
    have z1c := z1.cell
    have hno : fieldsW (splitL s.data.toList) = none := by
      obtain ⟨r, hr⟩ := hSp
      rw [← hr, fieldsW_append, hf]; rfl
    refine ⟨by simp, .inl ⟨_, _, rfl, run_takeDeferred hK, ?_⟩⟩
    exact ⟨.tuple #[.slice none 0 0, .int .i64 4], by simp [results, Tryz.results96, go_sem, z0c, z1c], ⟨Or.inr (Or.inl ⟨h0, hno, rfl⟩), hb.grown hg5 hb.size (fun k e => by cases e; omega)⟩⟩
theorem parse_any (s : ByteArray) (w : World) (hp : PlainAt w) (hs : s.size ≤ 3000000000000) :
    Calls Tryz.prog 96 #[.string s] w fun e w' => ParsePost w s.data.toList e w' := by
  by_cases h0 : s.data.toList = []
  · have e : s = ⟨#[]⟩ := by
      obtain ⟨⟨l⟩⟩ := s
      cases h0
      rfl
    subst e
    exact parse_empty w
  · exact parse_words s w hp h0 hs
end Go.Proofs.YtpdccbeeoapplaaGreatDoor

namespace Go.Proofs.YtpdccbeeoapplaaGreatDoor
open Go.RowKit Go.Sort Go.Lib
def InOrder (l : List Fld) : Prop := l.Pairwise fun x y => ltB y.1 x.1 = false
theorem order_unique : ∀ (a b : List Fld), InOrder a → InOrder b → (∀ c, a.filter (fun x => decide (x.1 = c)) = b.filter fun x => decide (x.1 = c)) → a = b
  | [], [], _, _, _ => rfl
  | [], y :: b, _, _, h => by have := h y.1; simp at this
  | x :: a, [], _, _, h => by have := h x.1; simp at this
  | x :: a, y :: b, ha, hb, h => by
    have ha' := List.pairwise_cons.1 ha
    have hb' := List.pairwise_cons.1 hb
    have hn : x.1 = y.1 := by
      have hx : x ∈ (y :: b).filter (fun z => decide (z.1 = x.1)) := by rw [← h]; simp
      have hy : y ∈ (x :: a).filter (fun z => decide (z.1 = y.1)) := by rw [h]; simp
      rw [List.mem_filter] at hx hy
      have h1 : ltB x.1 y.1 = false := by
        rcases List.mem_cons.1 hx.1 with e | e
        · rw [e]; exact ltB_irrefl _
        · exact hb'.1 x e
      have h2 : ltB y.1 x.1 = false := by
        rcases List.mem_cons.1 hy.1 with e | e
        · rw [e]; exact ltB_irrefl _
        · exact ha'.1 y e
      exact ltB_anti h1 h2
    have hxy : x = y := by
      have := h x.1
      rw [List.filter_cons_of_pos (by simp), List.filter_cons_of_pos (by simp [hn])] at this
      exact (List.cons.inj this).1
    subst hxy
    congr 1
    refine order_unique a b ha'.2 hb'.2 fun c => ?_
    have := h c
    by_cases e : x.1 = c
    · rw [List.filter_cons_of_pos (by simp [e]), List.filter_cons_of_pos (by simp [e])] at this
      exact (List.cons.inj this).2
    · rwa [List.filter_cons_of_neg (by simp [e]), List.filter_cons_of_neg (by simp [e])] at this
def insF (f : Fld) : List Fld → List Fld
  | [] => [f]
  | g :: l => if ltB f.1 g.1 then f :: g :: l else g :: insF f l
def sortS (l : List Fld) : List Fld := l.foldl (fun acc f => insF f acc) []
theorem mem_insF (f x : Fld) (l : List Fld) : x ∈ insF f l ↔ x = f ∨ x ∈ l := by
  induction l with
  | nil => simp [insF]
  | cons g l ih =>
    unfold insF
    split
    · simp
    · simp [ih, or_left_comm]
theorem insF_order (f : Fld) (l : List Fld) (h : InOrder l) : InOrder (insF f l) := by
  induction l with
  | nil => simp [insF, InOrder]
  | cons g l ih =>
    have h' := List.pairwise_cons.1 h
    unfold insF
    split
    · rename_i hlt
      refine List.pairwise_cons.2 ⟨fun x hx => ?_, h⟩
      rcases List.mem_cons.1 hx with rfl | hx
      · exact ltB_asymm hlt
      · have h1 := h'.1 x hx
        refine ltB_asymm ?_
        rcases ltB_cases g.1 x.1 with h2 | h2 | h2
        · exact ltB_trans hlt h2
        · rw [← h2]; exact hlt
        · rw [h1] at h2; cases h2
    · rename_i hlt
      refine List.pairwise_cons.2 ⟨fun x hx => ?_, ih h'.2⟩
      rcases (mem_insF f x l).1 hx with rfl | hx
      · simpa using hlt
      · exact h'.1 x hx
theorem insF_filter (f : Fld) (l : List Fld) (h : InOrder l) (c : ByteArray) : (insF f l).filter (fun x => decide (x.1 = c)) = (l ++ [f]).filter fun x => decide (x.1 = c) := by
  induction l with
  | nil => rfl
  | cons g l ih =>
    have h' := List.pairwise_cons.1 h
    unfold insF
    split
    · rename_i hlt
      by_cases e : f.1 = c
      · have hno : (g :: l).filter (fun x => decide (x.1 = c)) = [] := by
          rw [List.filter_eq_nil_iff]
          intro x hx hxc
          have hxc : x.1 = c := by simpa using hxc
          have hlx : ltB f.1 x.1 = true := by
            rcases List.mem_cons.1 hx with rfl | hx
            · exact hlt
            · have h1 := h'.1 x hx
              rcases ltB_cases g.1 x.1 with h2 | h2 | h2
              · exact ltB_trans hlt h2
              · rw [← h2]; exact hlt
              · rw [h1] at h2; cases h2
          rw [hxc, ← e, ltB_irrefl] at hlx
          cases hlx
        rw [List.filter_append, hno, List.filter_cons_of_pos (by simp [e]), hno, List.filter_cons_of_pos (by simp [e])]
        rfl
      · rw [List.filter_cons_of_neg (by simp [e]), List.filter_append, List.filter_cons_of_neg (p := fun x => decide (x.1 = c)) (a := f) (by simp [e])]
        simp
    · rw [List.cons_append, List.filter_cons, List.filter_cons, ih h'.2]
theorem sortS_spec (l : List Fld) : InOrder (sortS l) ∧ ∀ c, (sortS l).filter (fun x => decide (x.1 = c)) = l.filter fun x => decide (x.1 = c) := by
  have : ∀ (l acc : List Fld), InOrder acc → InOrder (l.foldl (fun acc f => insF f acc) acc) ∧ ∀ c, (l.foldl (fun acc f => insF f acc) acc).filter (fun x => decide (x.1 = c)) = (acc ++ l).filter fun x => decide (x.1 = c) := by
    intro l
    induction l with
    | nil => intro acc h; exact ⟨h, fun c => by simp⟩
    | cons f l ih =>
      intro acc h
      obtain ⟨h1, h2⟩ := ih (insF f acc) (insF_order f acc h)
      refine ⟨h1, fun c => ?_⟩
      rw [List.foldl_cons, h2 c, List.filter_append, insF_filter f acc h c, ← List.filter_append]
      simp
  have h := this l [] List.Pairwise.nil
  exact ⟨h.1, fun c => by simpa [sortS] using h.2 c⟩
theorem sortOf_flds {d ds : List Fx} (h : SortOf d ds) : ds.map Fx.fld = sortS (d.map Fx.fld) := by
  obtain ⟨h1, h2⟩ := sortS_spec (d.map Fx.fld)
  refine order_unique _ _ ?_ h1 fun c => ?_
  · refine List.Pairwise.map _ (fun x y hxy => ?_) h.2.1
    exact hxy
  · rw [h2 c, List.filter_map, List.filter_map]
    exact congrArg (List.map Fx.fld) (h.2.2 c)
def normF (fs : List Fld) : List Fld := joinS (sortS fs)
theorem NormAns.plain {N : Nat} {d : List Fx} {e : Ending} {w' : World} (h : NormAns N d e w') :
    ((d.map Fx.fld).any misB = true ∧ e = .returned (.tuple #[.slice none 0 0, .int .i64 2])) ∨
    ((d.map Fx.fld).any misB = false ∧
     (((normF (d.map Fx.fld)).any bareB = true ∧ e = .returned (.tuple #[.slice none 0 0, .int .i64 3])) ∨
      ((normF (d.map Fx.fld)).any bareB = false ∧ mayB (normF (d.map Fx.fld)) = false ∧ e = .returned (.tuple #[.slice none 0 0, .int .i64 5])) ∨
      ((normF (d.map Fx.fld)).any bareB = false ∧ mayB (normF (d.map Fx.fld)) = true ∧ ∃ u o, e = .returned (.tuple #[u, .int .i64 0]) ∧ OwnJ N w' u o ∧ o.map Fx.fld = normF (d.map Fx.fld)))) := by
  rcases h with h | ⟨h1, ds, h2, h3⟩
  · exact Or.inl h
  · have e := sortOf_flds h2
    rw [e] at h3
    exact Or.inr ⟨h1, h3⟩
end Go.Proofs.YtpdccbeeoapplaaGreatDoor

namespace Go.Proofs.YtpdccbeeoapplaaGreatDoor
open Go.RowKit
theorem room1 {l : List Value} {a : Value} {n : Nat} (h : l.length + 3 ≤ n) : (l ++ [a]).length + 1 ≤ n := by rw [List.length_append]; simp; omega
theorem room2 {l : List Value} {a b : Value} {n : Nat} (h : l.length + 3 ≤ n) : (l ++ [a] ++ [b]).length + 1 ≤ n := by rw [List.length_append, List.length_append]; simp; omega
set_option maxHeartbeats 4000000 in
set_option maxRecDepth 100000 in
theorem write_any (s : ByteArray) (w : World) (hp : PlainAt w) (hs : s.size ≤ 46912496118442) :
    Calls Tryz.prog 109 #[.string s] w fun e w' => e = .returned (.string ⟨(writeL s.data.toList).toArray⟩) ∧ Below w.heap.size w w' := by
  have HP := hid hp
  clear hp
  go_enter Tryz.func109, Tryz.ntmps109
  go_wp2_with fail
  go_loopg [4] s.size (fun g vi wr => ∃ i : Nat, vi = .int .i64 i ∧ i ≤ s.size ∧ s.size - i ≤ g ∧ Below w.heap.size w wr ∧ Lib.IsBuilder 78 5 w.heap.size w.heap.size (Lib.byteCells (writeL (s.data.toList.take i))) wr)
  case atStart => exact ⟨0, rfl, by omega, by omega, (Below.refl _ _).alloc (Nat.le_refl _) _, Lib.fresh_isBuilder _ _ _⟩
  case round =>
    obtain ⟨i, rfl, hi, hg, hb, hbu⟩ := hrel
    have HB := hid hbu
    clear hbu
    by_cases hlt : i < s.size
    · have hltz : (i : Int) < (s.size : Int) := by omega
      obtain ⟨c, hc⟩ : ∃ c, s[i] = c := ⟨_, rfl⟩
      have HPr : PlainAt wr := HP.out.on hb
      have hsz : (Lib.byteCells (writeL (s.data.toList.take i))).length + 3 ≤ 140737488355328 := by
        rw [Lib.byteCells_length]
        have := writeL_len (s.data.toList.take i)
        rw [List.length_take] at this
        omega
      have HS := hid hsz
      clear hsz
      have HW := hid (write_step s i hlt)
      rw [hc] at HW
      have HC := hid hc
      clear hc
      cases hpl : plainB (c.toNat : Int) with
      | true =>
        have HE : Hid (writeC c = [c]) := by show writeC c = [c]; unfold writeC; rw [if_pos hpl]
        go_wp2_with (first | (go_at_call 150; rw [HC.out]; refine (isPlain_any _ _ HPr).mono ?_; rintro e w1 ⟨rfl, hb1⟩) | (go_at_call 151; refine (wbyte_any w.heap.size w.heap.size _ _ _ (bld_on HB.out hb1) (Nat.le_trans (Nat.add_le_add_left (by decide) _) HS.out) (Nat.le_trans hb.size hb1.size)).mono ?_; rintro e w2 ⟨rfl, hbu2, hb2⟩))
        go_roundg (s.size - (i + 1))
        case measure => omega
        refine ⟨i + 1, by go_num, by omega, by omega, (hb.trans (hb1.mono hb.size)).trans hb2, ?_⟩
        rw [HW.out, HE.out]
        simpa [Lib.byteCells, HC.out] using hbu2
      | false =>
        have HE : Hid (writeC c = [37, hexd (c.toNat / 16), hexd (c.toNat % 16)]) := by show writeC c = _; unfold writeC; rw [if_neg (by rw [hpl]; simp)]
        have hc1 : (0 : Int) ≤ ↑c.toNat / 16 ∧ (↑c.toNat : Int) / 16 < 16 := by have := c.toNat_lt; omega
        have hc2 : (0 : Int) ≤ ↑c.toNat % 16 ∧ (↑c.toNat : Int) % 16 < 16 := by omega
        go_wp2_with (first | (go_at_call 150; rw [HC.out]; refine (isPlain_any _ _ HPr).mono ?_; rintro e w1 ⟨rfl, hb1⟩) | (go_at_call 151; refine (wbyte_any w.heap.size w.heap.size _ _ _ (bld_on HB.out hb1) (Nat.le_trans (Nat.add_le_add_left (by decide) _) HS.out) (Nat.le_trans hb.size hb1.size)).mono ?_; rintro e w2 ⟨rfl, hbu2, hb2⟩))
        go_wp2_with (go_at_call 151; refine (wbyte_any w.heap.size w.heap.size _ _ _ hbu2 (room1 HS.out) (Nat.le_trans hb.size (Nat.le_trans hb1.size hb2.size))).mono ?_; rintro e w3 ⟨rfl, hbu3, hb3⟩)
        go_wp2_with (go_at_call 151; refine (wbyte_any w.heap.size w.heap.size _ _ _ hbu3 (room2 HS.out) (Nat.le_trans hb.size (Nat.le_trans hb1.size (Nat.le_trans hb2.size hb3.size)))).mono ?_; rintro e w4 ⟨rfl, hbu4, hb4⟩)
        go_roundg (s.size - (i + 1))
        case measure => omega
        refine ⟨i + 1, by go_num, by omega, by omega, (((hb.trans (hb1.mono hb.size)).trans hb2).trans hb3).trans hb4, ?_⟩
        rw [HW.out, HE.out]
        rw [digit_at, digit_at] at hbu4
        simpa [Lib.byteCells] using hbu4
    · have hltz : ¬ (i : Int) < (s.size : Int) := by omega
      have he : s.data.toList.take i = s.data.toList := List.take_of_length_le (by simp; omega)
      have HB2 := HB.out
      rw [he] at HB2
      have HB3 := hid HB2
      clear HB2 he
      go_wp2_with (go_at_call 39; refine (Tryz.Builder_String_any _ _ _ _ HB3.out hb.size).mono ?_; rintro e w1 ⟨rfl, hb1⟩)
      go_ret
      exact ⟨rfl, hb.trans hb1⟩
end Go.Proofs.YtpdccbeeoapplaaGreatDoor

namespace Go.Proofs.YtpdccbeeoapplaaGreatDoor
open Go.RowKit
def wordOf (n t : ByteArray) : ByteArray := n ++ ⟨#[61]⟩ ++ ⟨(writeL t.data.toList).toArray⟩
def wordsF (f : Fld) : List ByteArray := f.2.map (wordOf f.1)
def wordsL (fs : List Fld) : List ByteArray := fs.flatMap wordsF
def lineOf (fs : List Fld) : ByteArray := ⟨(Lib.join ((wordsL fs).map (·.data.toList)) [32]).toArray⟩
theorem wordsL_len {fs : List Fld} (h : ∀ f ∈ fs, fitsB f = true) (hl : fs.length ≤ 16) : (wordsL fs).length ≤ 128 := by
  have : ∀ l : List Fld, (∀ f ∈ l, fitsB f = true) → (wordsL l).length ≤ l.length * 8 := by
    intro l
    induction l with
    | nil => intro _; simp [wordsL]
    | cons f l ih =>
      intro hf
      have h1 := ih fun g hg => hf g (by simp [hg])
      have h2 := (fits_parts (hf f (by simp))).2.2.1
      have e : wordsL (f :: l) = wordsF f ++ wordsL l := rfl
      rw [e, List.length_append, List.length_cons, Nat.add_mul]
      have e2 : (wordsF f).length = f.2.length := by simp [wordsF]
      omega
  have := this fs h
  omega
theorem word_len {f : Fld} {t : ByteArray} (h : fitsB f = true) (ht : t ∈ f.2) : (wordOf f.1 t).size ≤ 417 := by
  obtain ⟨h1, _, _, h4, _⟩ := fits_parts h
  have h5 := h4 t ht
  have h6 := writeL_len t.data.toList
  have e : t.data.toList.length = t.size := by simp
  have e2 : (wordOf f.1 t).size = f.1.size + 1 + (writeL t.data.toList).length := by
    unfold wordOf
    rw [ByteArray.size_append, ByteArray.size_append]
    rfl
  omega
theorem words_len {fs : List Fld} (h : ∀ f ∈ fs, fitsB f = true) : ∀ x ∈ wordsL fs, x.size ≤ 417 := by
  intro x hx
  obtain ⟨f, hf, hx⟩ := List.mem_flatMap.1 hx
  obtain ⟨t, ht, rfl⟩ := List.mem_map.1 hx
  exact word_len (h f hf) ht
theorem join_two (l m : List UInt8) (ls : List (List UInt8)) : Lib.join (l :: m :: ls) [32] = l ++ 32 :: Lib.join (m :: ls) [32] := by simp [Lib.join, List.intercalate]
theorem join_len (ls : List (List UInt8)) (c : Nat) (h : ∀ l ∈ ls, l.length ≤ c) : (Lib.join ls [32]).length ≤ ls.length * (c + 1) := by
  induction ls with
  | nil => simp [Lib.join]
  | cons l ls ih =>
    have h1 := h l (by simp)
    have h2 := ih fun m hm => h m (by simp [hm])
    cases ls with
    | nil => simp [Lib.join]; omega
    | cons m ls =>
      rw [join_two, List.length_append, List.length_cons, List.length_cons, Nat.add_mul]
      omega
theorem join_any (ws : List ByteArray) (p : Option Addr) (cap : Nat) (w : World) {n0 : Nat} (h : OwnT n0 w (.slice p ws.length cap) ws) (hn : ws.length ≤ 128) (hs : ∀ x ∈ ws, x.size ≤ 417) :
    Calls Tryz.prog 20 #[.slice p ws.length cap, .string ⟨#[32]⟩] w fun e w' => e = .returned (.string ⟨(Lib.join (ws.map (·.data.toList)) [32]).toArray⟩) ∧ Below w.heap.size w w' := by
  rcases h.2 with ⟨_, h0⟩ | ⟨g, c, cur, hv, _, hg, hcap, _, hsz, htk⟩
  · obtain rfl := List.length_eq_zero_iff.1 h0
    refine (Tryz.strings_Join_none p cap _ w).mono ?_
    rintro e w' ⟨rfl, rfl⟩
    exact ⟨rfl, Below.refl _ _⟩
  · injection hv with hp hl hc
    subst hp
    subst hc
    refine (Tryz.strings_Join g 0 cap ws ⟨#[32]⟩ w (fun j x hj => ?_) (Array.getElem?_eq_some_iff.1 hg).1 (by omega) (by omega) ?_).mono ?_
    · have hjl := (List.getElem?_eq_some_iff.1 hj).1
      rw [Nat.zero_add, cell_of_row w g j cur _ _ hg, ← Array.getElem?_toList]
      have : (ws.map Value.string)[j]? = cur.toList[j]? := by rw [← htk, List.getElem?_take, if_pos (by omega)]
      rw [← this, List.getElem?_map, hj]; rfl
    · have h1 := join_len (ws.map (·.data.toList)) 417 (fun l hl => by
        obtain ⟨x, hx, rfl⟩ := List.mem_map.1 hl
        have := hs x hx
        simpa using this)
      rw [List.length_map] at h1
      have h2 : ws.length * 418 ≤ 128 * 418 := Nat.mul_le_mul_right _ hn
      show (Lib.join (ws.map (·.data.toList)) [32]).length ≤ _
      omega
    · rintro e w' ⟨rfl, hb⟩
      exact ⟨rfl, hb⟩
set_option maxHeartbeats 4000000 in
set_option maxRecDepth 100000 in
theorem print_yes (v : Value) (d : List Fx) (w : World) (hp : PlainAt w) (hv : IsXs w v d) (hf : FitX d) (hm : mayB (d.map Fx.fld) = true) :
    Calls Tryz.prog 66 #[v] w fun e w' => e = .returned (.tuple #[.string (lineOf (d.map Fx.fld)), .int .i64 0]) ∧ Below w.heap.size w w' := by
  have HM := hid (may_any v d w hv hf)
  rw [hm] at HM
  have HP := hid hp
  obtain ⟨i0, hi, hz0, hz1, hz2⟩ := info_parts Tryz.infoStr
  have HI := hid hi
  obtain ⟨p, cap, rfl, hd, ht⟩ := hv
  have HT := hid ht
  have hl := hf.1
  unfold maxLen at hl
  have HD := hid hd
  have HMM := hid hm
  clear ht hf hd hm hi hp
  go_enter Tryz.func66, Tryz.ntmps66
  go_wp2_with (first | (go_at_call 83; refine HM.out.mono ?_; rintro e w1 ⟨rfl, hg⟩))
  go_loopg [4, 14] d.length (fun g vb vi wr => ∃ i : Nat, vi = .int .i64 i ∧ i ≤ d.length ∧ d.length - i ≤ g ∧ Below w.heap.size w wr ∧ OwnT w.heap.size wr vb (wordsL ((d.map Fx.fld).take i)))
  case atStart => exact ⟨0, rfl, by omega, by omega, hg.below, World.ownsRow_nil _ _ _ _⟩
  case round =>
    obtain ⟨i, rfl, hi, hgk, hb, hob⟩ := hrel
    by_cases hlt : i < d.length
    · have hltz : (i : Int) < (d.length : Int) := by omega
      have hiz : (0 : Int) ≤ i := by omega
      obtain ⟨b, off, rfl, hxs⟩ : ∃ b off, p = some ⟨b, off, none⟩ ∧ XsAt w b off d := by
        rcases HD.out with h | h
        · subst h; simp at hlt
        · exact h
      obtain ⟨c0, c1⟩ := hxs.kept hb i hlt
      have hxi : (d[i]).at w := HT.out _ (List.getElem_mem hlt)
      have hfi : fitsB (d[i]).fld = true := may_fits HMM.out _ (List.mem_map.2 ⟨_, List.getElem_mem hlt, rfl⟩)
      have htk : wordsL ((d.map Fx.fld).take (i + 1)) = wordsL ((d.map Fx.fld).take i) ++ wordsF (d[i]).fld := by
        unfold wordsL
        rw [List.take_succ_eq_append_getElem (by rw [List.length_map]; exact hlt), List.flatMap_append]
        simp
      obtain ⟨x, hx⟩ : ∃ x, d[i] = x := ⟨_, rfl⟩
      rw [hx] at c0 c1 hxi hfi htk
      obtain ⟨b2, off2, hp2, ht2⟩ : ∃ b off, x.p = some ⟨b, off, none⟩ ∧ ∀ i, (h : i < x.txt.length) → w.cell? ⟨b, off + i, none⟩ = some (.string x.txt[i]) := by
        rcases hxi with h | h
        · have := (fits_parts hfi).2.1
          simp only [Fx.fld] at this
          rw [h] at this; simp at this
        · exact h
      have hal : (wordsL ((d.map Fx.fld).take i)).length ≤ 128 := wordsL_len (fun f hf => may_fits HMM.out f (List.mem_of_mem_take hf)) (by rw [List.length_take]; have := (may_parts HMM.out).1; omega)
      obtain ⟨acc, hacc⟩ : ∃ acc, wordsL ((d.map Fx.fld).take i) = acc := ⟨_, rfl⟩
      rw [hacc] at hob htk hal
      obtain ⟨hn32, _, hn8, _⟩ := fits_parts hfi
      have HT2 := hid ht2
      have HFI := hid hfi
      have HTK := hid htk
      have HOB := hid hob
      have HB := hid hb
      have hsz := hb.size
      clear hxs hxi hx htk hacc hob hfi ht2
      unfold Fx.sl at c1
      rw [hp2] at c1
      clear hp2
      simp only [Fx.fld] at hn32 hn8
      go_wp2_with fail
      obtain ⟨F, hF⟩ : ∃ F, wr.heap.size = F := ⟨_, rfl⟩
      have hbox : (wr.alloc (.cells #[.string x.name, .slice (some ⟨b2, off2, none⟩) x.txt.length x.cap] 47)).heap[F]? = some (.cells #[.string x.name, .slice (some ⟨b2, off2, none⟩) x.txt.length x.cap] 47 (0, 0)) := by rw [← hF]; exact heap_alloc_new wr _
      have hbb : Below w.heap.size w (wr.alloc (.cells #[.string x.name, .slice (some ⟨b2, off2, none⟩) x.txt.length x.cap] 47)) := HB.out.alloc hsz _
      have hoo : OwnT w.heap.size (wr.alloc (.cells #[.string x.name, .slice (some ⟨b2, off2, none⟩) x.txt.length x.cap] 47)) u4 acc := HOB.out.on ((Below.refl _ _).alloc (Nat.le_refl _) _)
      have hwF : w.heap.size ≤ F := by omega
      rw [hF]
      go_loopg [4, 21] x.txt.length (fun g vb vj wr2 => ∃ j : Nat, vj = .int .i64 j ∧ j ≤ x.txt.length ∧ x.txt.length - j ≤ g ∧ Below w.heap.size w wr2 ∧ wr2.heap[F]? = some (.cells #[.string x.name, .slice (some ⟨b2, off2, none⟩) x.txt.length x.cap] 47 (0, 0)) ∧ OwnT w.heap.size wr2 vb (acc ++ (x.txt.take j).map (wordOf x.name)))
      case atStart => exact ⟨0, rfl, by omega, by omega, hbb, hbox, by simpa using hoo⟩
      case round =>
        obtain ⟨j, rfl, hj, hgj, hbj, hbxj, hobj⟩ := hrel
        by_cases hlj : j < x.txt.length
        · have hljz : (j : Int) < (x.txt.length : Int) := by omega
          have hjz : (0 : Int) ≤ j := by omega
          have t0 : wr.cell? ⟨b2, off2 + j, none⟩ = some (.string x.txt[j]) := (hbj.cell (p := ⟨b2, off2 + j, none⟩) (cell_block (HT2.out j hlj))).trans (HT2.out j hlj)
          have hts : x.txt[j].size ≤ 128 := (fits_parts HFI.out).2.2.2.1 _ (List.getElem_mem hlj)
          have hstep : (x.txt.take (j + 1)).map (wordOf x.name) = (x.txt.take j).map (wordOf x.name) ++ [wordOf x.name x.txt[j]] := by
            rw [List.take_succ_eq_append_getElem hlj, List.map_append]; simp
          obtain ⟨t, hte⟩ : ∃ t, x.txt[j] = t := ⟨_, rfl⟩
          rw [hte] at t0 hts hstep
          have q0 : wr.cell? ⟨F, 0, none⟩ = some (.string x.name) := by rw [Lib.cell_of_heap hbxj]; rfl
          have hFl : F < wr.heap.size := (Array.getElem?_eq_some_iff.1 hbxj).1
          obtain ⟨ac2, hac2⟩ : ∃ ac2, acc ++ (x.txt.take j).map (wordOf x.name) = ac2 := ⟨_, rfl⟩
          have hal2 : ac2.length ≤ 200 := by rw [← hac2]; simp; omega
          rw [hac2] at hobj
          have HW := hid (write_any t wr.drew (HP.out.on hbj.drew) (by omega))
          have HST := hid hstep
          have HOJ := hid hobj
          have HBJ := hid hbj
          have HBX := hid hbxj
          have HAC2 := hid hac2
          have hszj := hbj.size
          clear hte hstep hobj hbj hbxj hac2
          have hwl2 := writeL_len t.data.toList
          have hwl3 : t.data.toList.length = t.size := by simp
          obtain ⟨wt, hwt⟩ : ∃ wt : ByteArray, ⟨(writeL t.data.toList).toArray⟩ = wt := ⟨_, rfl⟩
          have hwts : wt.size ≤ 384 := by rw [← hwt]; show (writeL t.data.toList).toArray.size ≤ 384; rw [List.size_toArray]; omega
          rw [hwt] at HW
          obtain ⟨nq, hnq⟩ : ∃ nq : ByteArray, x.name ++ ⟨#[61]⟩ = nq := ⟨_, rfl⟩
          have hnqs : nq.size ≤ 33 := by rw [← hnq, ByteArray.size_append]; show x.name.size + 1 ≤ 33; omega
          obtain ⟨wd, hwd⟩ : ∃ wd : ByteArray, nq ++ wt = wd := ⟨_, rfl⟩
          have HWD : Hid (wordOf x.name t = wd) := by show _ = _; rw [← hwd, ← hnq, ← hwt]; rfl
          have hA : ∀ w, Sem.run Tryz.prog (Op.stringOp .add x.name ⟨#[61]⟩) w = .ok (.string nq) w := fun w => by rw [← hnq]; exact run_string_add_sum _ _ _ (by show x.name.size + 1 ≤ _; omega)
          have hB : ∀ w, Sem.run Tryz.prog (Op.stringOp .add nq wt) w = .ok (.string wd) w := fun w => by rw [← hwd]; exact run_string_add_sum _ _ _ (by omega)
          clear hwl2 hwl3 hwt hnq hwd hwts hnqs
          have KS : Hid (∀ w' : World, w'.heap[F]? = wr.heap[F]? → w'.cell? ⟨F, 0, none⟩ = some (.string x.name)) := fun w' e => by
            rw [Lib.cell_of_heap (e.trans HBX.out)]; rfl
          have KA : Hid (∀ w3 w4 : World, w3.heap[F]? = wr.heap[F]? → OwnT w.heap.size w3 u4 ac2 → w3.grownBy w4 u4.ownBlock → w4.heap[F]? = wr.heap[F]?) := fun w3 w4 e ho hg => by
            refine (hg.block F (Array.getElem?_eq_some_iff.1 (e.trans HBX.out)).1 fun e' => ?_).trans e
            rcases ho.2 with ⟨hv, _⟩ | ⟨g, c, cur, hv, _, hgb, _⟩
            · rw [hv] at e'; cases e'
            · rw [hv] at e'
              have : F = g := by simpa [Value.ownBlock] using e'
              subst this
              rw [e, HBX.out] at hgb
              injection hgb with hgb
              injection hgb with _ hgb
              exact absurd hgb (by decide)
          go_wp2_with fail
          go_region_held3 (fun w' => w'.cell? ⟨F, 0, none⟩ = some (.string x.name))
            (first | exact q0 | exact q2 | exact q3 | exact q4)
            (first | (go_at_call 109; refine HW.out.mono ?_; rintro o w2 ⟨rfl, hb2⟩; have e2 := hb2.block F hFl; have q2 := KS.out _ e2; have e3 := fun o => (Below.heap_alloc w2 o F (Nat.lt_of_lt_of_le hFl hb2.size)).trans e2; have e3w := e3 (.cells #[.string wd] 9); have q3 := KS.out _ e3w; have hbase3 : w.heap.size ≤ (w2.alloc (.cells #[.string wd] 9)).heap.size := (by have := hb2.size; simp at this ⊢; omega); have hown3 : OwnT w.heap.size (w2.alloc (.cells #[.string wd] 9)) u4 ac2 := (OwnT.on (w := wr.drew) HOJ.out hb2).on ((Below.refl _ _).alloc (Nat.le_refl _) _)) | (refine step_append_lies _ (by rfl) (.tmp 25) (.tmp 32) 45 (by rfl) w.heap.size 9 i0 (.string ⟨#[]⟩) 1 16 Tryz.underlying45 HI.out hz0 hz1 hz2 rfl (by decide) u4 ac2.length (ac2.map Value.string) (by rfl) (by assumption) _ 1 1 [.string wd] (by rfl) rfl (by intro j u hj; match j, hj with | 0, hj => simp at hj; subst hj; simp [Addr.add]) (by intro u hu; simp at hu; subst hu; rfl) (by decide) (by unfold maxLen; omega) (by omega) (by assumption) _ rfl ?_; intro g cap w4 hown4 hg4 hat4 hlt4; have e4 := KA.out _ _ (by assumption) (by assumption) hg4; have q4 := KS.out _ e4))
          have hbw : Below w.heap.size w w4 := (((HBJ.out.drew.trans (hb2.mono (by simpa using hszj))).alloc (by have := hb2.size; simp at this ⊢; omega) _).grown hg4 hbase3 (fun k hk => (World.ownsRow.lt hown3 k hk).1))
          have HF4 : Hid (Below w.heap.size w w4 ∧ w4.heap[F]? = some (.cells #[.string x.name, .slice (some ⟨b2, off2, none⟩) x.txt.length x.cap] 47 (0, 0)) ∧ OwnT w.heap.size w4 (.slice (some ⟨g, 0, none⟩) (ac2.length + 1) cap) (acc ++ (x.txt.take (j + 1)).map (wordOf x.name))) := by
            refine ⟨hbw, e4.trans HBX.out, ?_⟩
            have e5 : acc ++ (x.txt.take (j + 1)).map (wordOf x.name) = ac2 ++ [wd] := by rw [HST.out, ← List.append_assoc, HAC2.out, HWD.out]
            rw [e5]
            unfold OwnT
            rw [List.length_append, List.map_append]
            exact hown4
          clear hbw hown4 hg4 hown3 e4 e3w e3 e2 hb2 q4 q3 q2 hat4 hlt4
          go_wp2_with fail
          go_roundg (x.txt.length - (j + 1))
          case measure => omega
          exact ⟨j + 1, by go_num, by omega, by omega, HF4.out⟩
        · have hljz : ¬ (j : Int) < (x.txt.length : Int) := by omega
          have htk2 : x.txt.take j = x.txt := List.take_of_length_le (by omega)
          rw [htk2] at hobj
          have HOJ := hid hobj
          have HBJ := hid hbj
          clear hobj hbj htk2 hbxj
          go_wp2_with fail
          go_roundg (d.length - (i + 1))
          case measure => omega
          refine ⟨i + 1, by go_num, by omega, by omega, HBJ.out, ?_⟩
          rw [HTK.out]
          exact HOJ.out
    · have hltz : ¬ (i : Int) < (d.length : Int) := by omega
      have htk2 : (d.map Fx.fld).take i = d.map Fx.fld := List.take_of_length_le (by rw [List.length_map]; omega)
      rw [htk2] at hob
      have hwn : (wordsL (d.map Fx.fld)).length ≤ 128 := wordsL_len (may_fits HMM.out) (may_parts HMM.out).1
      have hws := words_len (may_fits HMM.out)
      have HLN : Hid (lineOf (d.map Fx.fld) = ⟨(Lib.join ((wordsL (d.map Fx.fld)).map (·.data.toList)) [32]).toArray⟩) := rfl
      obtain ⟨ws, hwe⟩ : ∃ ws, wordsL (d.map Fx.fld) = ws := ⟨_, rfl⟩
      rw [hwe] at hob hwn hws HLN
      clear htk2 hwe
      obtain ⟨p4, cap4, rfl⟩ : ∃ p cap, u4 = .slice p ws.length cap := by
        rcases hob.2 with ⟨hv, h0⟩ | ⟨g, cap, cur, hv, _⟩
        · exact ⟨none, 0, by rw [hv, h0]⟩
        · exact ⟨_, _, hv⟩
      have HJ := hid (join_any ws p4 cap4 wr hob hwn hws)
      clear hob hws hwn
      go_wp2_with (first | (go_at_call 20; refine HJ.out.mono ?_; rintro e w2 ⟨rfl, hb2⟩))
      go_ret2
      rw [HLN.out]
      exact ⟨rfl, hb.trans (hb2.mono hb.size)⟩
end Go.Proofs.YtpdccbeeoapplaaGreatDoor

namespace Go.Proofs.YtpdccbeeoapplaaGreatDoor
open Go.RowKit Go.Sort Go.Lib
theorem ltN_eq (a b : ByteArray) : ltN a b = ltB a b := by
  unfold ltN ltB
  rw [Lib.toList_data, Lib.toList_data, cb_less]
end Go.Proofs.YtpdccbeeoapplaaGreatDoor

namespace Go.Proofs.YtpdccbeeoapplaaGreatDoor
open Go.RowKit Go.Sort Go.Lib
theorem own_len {n0 : Nat} {w : World} {u : Value} {d : List Fx} (h : OwnXs n0 w u d) : ∃ p c, u = .slice p d.length c := by
  rcases h.1.2 with ⟨rfl, h0⟩ | ⟨g, cap, cur, rfl, _⟩
  · exact ⟨none, 0, by rw [h0]⟩
  · exact ⟨_, _, rfl⟩
end Go.Proofs.YtpdccbeeoapplaaGreatDoor

namespace Go.Proofs.YtpdccbeeoapplaaGreatDoor
open Go.RowKit
end Go.Proofs.YtpdccbeeoapplaaGreatDoor

namespace Go.Proofs.YtpdccbeeoapplaaGreatDoor
open Go.RowKit
end Go.Proofs.YtpdccbeeoapplaaGreatDoor

namespace Go.Proofs.YtpdccbeeoapplaaGreatDoor
open Go.RowKit Go.Lib
def blanks (l : List UInt8) : Nat := l.countP fun c => c == 32
theorem blanks_append (a b : List UInt8) : blanks (a ++ b) = blanks a + blanks b := List.countP_append ..
theorem field_noblank {l : List UInt8} (h : fieldB l = true) : blanks l = 0 := by
  unfold blanks
  rw [List.countP_eq_zero]
  intro c hc
  unfold fieldB spell at h
  cases l with
  | nil => simp at hc
  | cons x r =>
    simp only [Bool.and_eq_true, List.all_eq_true] at h
    have key : lodB (c.toNat : Int) = true ∨ smallB (c.toNat : Int) = true := by
      rcases List.mem_cons.1 hc with rfl | hc
      · exact Or.inr h.1.2
      · exact Or.inl (h.2 c hc)
    intro e
    have e : c = 32 := by simpa using e
    subst e
    rcases key with k | k
    · revert k; decide
    · revert k; decide
theorem hexd_noblank (k : Nat) (h : k < 16) : (hexd k == 32) = false := by
  have t : ((List.range 16).all fun k => !(hexd k == 32)) = true := by decide
  have := List.all_eq_true.1 t k (List.mem_range.2 h)
  simpa using this
theorem write_noblank (l : List UInt8) : blanks (writeL l) = 0 := by
  induction l with
  | nil => rfl
  | cons c l ih =>
    rw [writeL_cons, blanks_append, ih]
    unfold writeC
    cases hp : plainB (c.toNat : Int) with
    | true =>
      have : (c == 32) = false := by
        rw [beq_eq_false_iff_ne]
        intro e
        subst e
        revert hp; decide
      simp [blanks, this]
    | false =>
      have hc := c.toNat_lt
      simp [blanks, hexd_noblank (c.toNat / 16) (by omega), hexd_noblank (c.toNat % 16) (by omega)]
theorem word_data (n t : ByteArray) : (wordOf n t).data.toList = n.data.toList ++ [61] ++ writeL t.data.toList := by
  unfold wordOf
  obtain ⟨⟨n⟩⟩ := n
  simp
theorem word_noblank {n t : ByteArray} (h : fieldB n.data.toList = true) : blanks (wordOf n t).data.toList = 0 := by
  rw [word_data, blanks_append, blanks_append, field_noblank h, write_noblank]
  rfl
theorem join_size (c : Nat) : ∀ ws : List (List UInt8), (∀ w ∈ ws, w.length ≤ c) → (Lib.join ws [32]).length ≤ ws.length * (c + 1)
  | [], _ => by simp [Lib.join, List.intercalate]
  | [w], h => by
    have := h w (by simp)
    rw [Lib.join_one]
    simp
    omega
  | w :: v :: ws, h => by
    have h1 := h w (by simp)
    have ih := join_size c (v :: ws) (fun x hx => h x (by simp [hx]))
    have e : Lib.join (w :: v :: ws) [32] = w ++ [32] ++ Lib.join (v :: ws) [32] := by simp [Lib.join]
    have e2 : (w :: v :: ws).length * (c + 1) = (v :: ws).length * (c + 1) + (c + 1) := by rw [List.length_cons, Nat.add_mul, Nat.one_mul]
    have e3 : ([32] : List UInt8).length = 1 := rfl
    rw [e, List.length_append, List.length_append, e2, e3]
    omega
theorem line_size {fs : List Fld} (h : mayB fs = true) : (lineOf fs).size ≤ 53504 := by
  have e : (lineOf fs).size = (Lib.join ((wordsL fs).map (·.data.toList)) [32]).length := by
    show (Lib.join ((wordsL fs).map (·.data.toList)) [32]).toArray.size = _
    simp
  have h1 := join_size 417 ((wordsL fs).map (·.data.toList)) (fun w hw => by
    obtain ⟨x, hx, rfl⟩ := List.mem_map.1 hw
    obtain ⟨f, hf, hx⟩ := List.mem_flatMap.1 hx
    obtain ⟨t, ht, rfl⟩ := List.mem_map.1 hx
    simpa using word_len (may_fits h f hf) ht)
  have h2 := wordsL_len (fun f hf => may_fits h f hf) (may_parts h).1
  rw [List.length_map] at h1
  have h3 : (wordsL fs).length * (417 + 1) ≤ 128 * (417 + 1) := Nat.mul_le_mul_right _ h2
  omega
end Go.Proofs.YtpdccbeeoapplaaGreatDoor

namespace Go.Proofs.YtpdccbeeoapplaaGreatDoor
open Go.RowKit Go.Lib
def lineB (ws : List ByteArray) : ByteArray := ⟨(Lib.join (ws.map (·.data.toList)) [32]).toArray⟩
theorem lineB_data (ws : List ByteArray) : (lineB ws).data.toList = Lib.join (ws.map (·.data.toList)) [32] := by
  unfold lineB
  rw [List.toList_toArray]
theorem data_append (a b : ByteArray) : (a ++ b).data.toList = a.data.toList ++ b.data.toList := by
  simp
theorem lineB_size {ws : List ByteArray} (hn : ws.length ≤ 200) (hs : ∀ x ∈ ws, x.size ≤ 417) : (lineB ws).size ≤ 83600 := by
  have e : (lineB ws).size = (Lib.join (ws.map (·.data.toList)) [32]).length := by rw [← lineB_data]; simp
  have h1 := join_size 417 (ws.map (·.data.toList)) (fun w hw => by
    obtain ⟨x, hx, rfl⟩ := List.mem_map.1 hw
    simpa using hs x hx)
  rw [List.length_map] at h1
  have h3 : ws.length * (417 + 1) ≤ 200 * (417 + 1) := Nat.mul_le_mul_right _ hn
  omega
end Go.Proofs.YtpdccbeeoapplaaGreatDoor

namespace Go.Proofs.YtpdccbeeoapplaaGreatDoor
open Go.RowKit Go.Lib
def wordM (x : Tm) : ByteArray := x.1 ++ ⟨#[opC x.2.1]⟩ ++ ⟨(writeL x.2.2.data.toList).toArray⟩
def lineM (p : List Tm) : ByteArray := lineB (p.map wordM)
theorem wordM_data (x : Tm) : (wordM x).data.toList = x.1.data.toList ++ opC x.2.1 :: writeL x.2.2.data.toList := by
  unfold wordM
  simp only [data_append]
  simp
theorem wordM_len {x : Tm} (h1 : namedM x = true) (h2 : shortM x = true) : (wordM x).size ≤ 417 := by
  have e : (wordM x).size = (wordM x).data.toList.length := by simp
  have h3 := fieldB_len h1
  have h4 := writeL_len x.2.2.data.toList
  have h5 : x.2.2.data.toList.length = x.2.2.size := by simp
  have h6 := of_decide_eq_true h2
  rw [e, wordM_data, List.length_append, List.length_cons]
  omega
theorem ansM_all {p : List Tm} (x : Tm) (h : x ∈ ansM p) : namedM x = true ∧ rightM x = true ∧ shortM x = true := by
  unfold ansM at h
  by_cases hm : mayM p = 0
  · rw [if_pos hm] at h
    obtain ⟨_, h1, h2, h3⟩ := mayM_zero hm
    have hx := ((sortM_spec p).2 x).1 h
    exact ⟨List.all_eq_true.1 h1 x hx, List.all_eq_true.1 h2 x hx, List.all_eq_true.1 h3 x hx⟩
  · rw [if_neg hm] at h; simp at h
theorem ansM_len (p : List Tm) : (ansM p).length ≤ 8 := by
  unfold ansM
  by_cases hm : mayM p = 0
  · rw [if_pos hm]
    have := sortM_len p
    have := (mayM_zero hm).1
    omega
  · rw [if_neg hm]; simp
theorem rightM_range {x : Tm} (h : rightM x = true) : 1 ≤ x.2.1 ∧ x.2.1 ≤ 7 := by
  unfold rightM at h
  rw [Bool.and_eq_true, Bool.and_eq_true] at h
  exact ⟨of_decide_eq_true h.1.1, of_decide_eq_true h.1.2⟩
theorem sign_at (m : Nat) (h : m < 7) : Utf8.encode (((⟨#[61, 33, 94, 60, 62, 63, 45]⟩ : ByteArray)[m]'h).toNat : Int) = ⟨#[opC ((m : Int) + 1)]⟩ := by
  have : m = 0 ∨ m = 1 ∨ m = 2 ∨ m = 3 ∨ m = 4 ∨ m = 5 ∨ m = 6 := by omega
  rcases this with rfl | rfl | rfl | rfl | rfl | rfl | rfl <;> decide +revert
theorem wrap_i64 (n : Int) (h1 : -9223372036854775808 ≤ n) (h2 : n ≤ 9223372036854775807) : IntKind.i64.wrap n = n := by
  simp [IntKind.wrap, IntKind.signed, IntKind.bits]; omega
end Go.Proofs.YtpdccbeeoapplaaGreatDoor

namespace Go.Proofs.YtpdccbeeoapplaaGreatDoor
open Go.RowKit Go.Sort Go.Lib
def txtOf (fs : List Fld) (c : ByteArray) : List ByteArray := (fs.filter fun x => decide (x.1 = c)).flatMap (·.2)
def Rising (l : List Fld) : Prop := l.Pairwise fun x y => ltB x.1 y.1 = true
theorem txtOf_snoc (l : List Fld) (f : Fld) (c : ByteArray) : txtOf (l ++ [f]) c = txtOf l c ++ if f.1 = c then f.2 else [] := by
  unfold txtOf
  rw [List.filter_append, List.flatMap_append]
  by_cases e : f.1 = c
  · rw [if_pos e, List.filter_cons_of_pos (by simp [e])]; simp
  · rw [if_neg e, List.filter_cons_of_neg (by simp [e])]; simp
theorem txtOf_none {l : List Fld} {c : ByteArray} (h : ∀ f ∈ l, f.1 ≠ c) : txtOf l c = [] := by
  unfold txtOf
  rw [List.filter_eq_nil_iff.2 (fun x hx => by simpa using h x hx)]
  rfl
structure Groups (l o : List Fld) : Prop where
  rising : Rising o
  names : ∀ c, (∃ f ∈ o, f.1 = c) ↔ ∃ f ∈ l, f.1 = c
  texts : ∀ f ∈ o, f.2 = txtOf l f.1
theorem ltB_ne {a b : ByteArray} (h : ltB a b = true) : a ≠ b := by
  rintro rfl
  rw [ltB_irrefl] at h
  cases h
theorem Groups.step {l o : List Fld} {f : Fld} (h : Groups l o) (hf : ∀ x ∈ l, ltB f.1 x.1 = false) : Groups (l ++ [f]) (joinStep o f) := by
  obtain ⟨h1, h2, h3⟩ := h
  have hfo : ∀ x ∈ o, ltB f.1 x.1 = false := fun x hx => by
    obtain ⟨y, hy, e⟩ := (h2 x.1).1 ⟨x, hx, rfl⟩
    rw [← e]; exact hf y hy
  rcases List.eq_nil_or_concat o with rfl | ⟨o', g, rfl⟩
  · have hl : l = [] := by
      cases l with
      | nil => rfl
      | cons y l =>
        obtain ⟨z, hz, _⟩ := (h2 y.1).2 ⟨y, by simp, rfl⟩
        simp at hz
    subst hl
    rw [joinStep_nil]
    refine ⟨List.pairwise_singleton _ _, fun c => by simp, fun x hx => ?_⟩
    rw [List.mem_singleton] at hx
    subst hx
    simp [txtOf]
  · rw [List.concat_eq_append] at *
    have hr := List.pairwise_append.1 h1
    have ho' : ∀ x ∈ o', ltB x.1 g.1 = true := fun x hx => hr.2.2 x hx g (by simp)
    have hgf := hfo g (by simp)
    by_cases e : g.1 = f.1
    · rw [joinStep_same _ _ _ e]
      refine ⟨?_, fun c => ?_, fun x hx => ?_⟩
      · refine List.pairwise_append.2 ⟨hr.1, List.pairwise_singleton _ _, fun a ha b hb => ?_⟩
        rw [List.mem_singleton] at hb
        subst hb
        exact ho' a ha
      · have := h2 c
        constructor
        · rintro ⟨x, hx, rfl⟩
          rw [List.mem_append, List.mem_singleton] at hx
          rcases hx with hx | rfl
          · obtain ⟨y, hy, ey⟩ := (h2 x.1).1 ⟨x, by simp [hx], rfl⟩
            exact ⟨y, by simp [hy], ey⟩
          · exact ⟨f, by simp, e.symm⟩
        · rintro ⟨y, hy, rfl⟩
          rw [List.mem_append, List.mem_singleton] at hy
          rcases hy with hy | rfl
          · obtain ⟨x, hx, ex⟩ := this.2 ⟨y, hy, rfl⟩
            rw [List.mem_append, List.mem_singleton] at hx
            rcases hx with hx | rfl
            · exact ⟨x, by simp [hx], ex⟩
            · exact ⟨_, List.mem_append_right _ (List.mem_singleton.2 rfl), ex⟩
          · exact ⟨_, List.mem_append_right _ (List.mem_singleton.2 rfl), e⟩
      · rw [List.mem_append, List.mem_singleton] at hx
        rcases hx with hx | rfl
        · rw [txtOf_snoc, if_neg (fun k => ltB_ne (ho' x hx) (k.symm.trans e.symm)), List.append_nil]
          exact h3 x (by simp [hx])
        · show g.2 ++ f.2 = txtOf (l ++ [f]) g.1
          rw [txtOf_snoc, if_pos e.symm, ← h3 g (by simp)]
    · rw [joinStep_other _ _ _ e]
      have hgf' : ltB g.1 f.1 = true := by
        rcases ltB_cases g.1 f.1 with k | k | k
        · exact k
        · exact absurd k e
        · rw [hgf] at k; cases k
      have hlt : ∀ x ∈ o' ++ [g], ltB x.1 f.1 = true := fun x hx => by
        rw [List.mem_append, List.mem_singleton] at hx
        rcases hx with hx | rfl
        · exact ltB_trans (ho' x hx) hgf'
        · exact hgf'
      refine ⟨?_, fun c => ?_, fun x hx => ?_⟩
      · refine List.pairwise_append.2 ⟨h1, List.pairwise_singleton _ _, fun a ha b hb => ?_⟩
        rw [List.mem_singleton] at hb
        subst hb
        exact hlt a ha
      · constructor
        · rintro ⟨x, hx, rfl⟩
          rw [List.mem_append, List.mem_singleton] at hx
          rcases hx with hx | rfl
          · obtain ⟨y, hy, ey⟩ := (h2 x.1).1 ⟨x, hx, rfl⟩
            exact ⟨y, List.mem_append_left _ hy, ey⟩
          · exact ⟨x, by simp, rfl⟩
        · rintro ⟨y, hy, rfl⟩
          rw [List.mem_append, List.mem_singleton] at hy
          rcases hy with hy | rfl
          · obtain ⟨x, hx, ex⟩ := (h2 y.1).2 ⟨y, hy, rfl⟩
            exact ⟨x, List.mem_append_left _ hx, ex⟩
          · exact ⟨y, by simp, rfl⟩
      · rw [List.mem_append, List.mem_singleton] at hx
        rcases hx with hx | rfl
        · rw [txtOf_snoc, if_neg (fun k => ltB_ne (hlt x hx) k.symm), List.append_nil]
          exact h3 x hx
        · rw [txtOf_snoc, if_pos rfl, txtOf_none, List.nil_append]
          intro y hy k
          obtain ⟨z, hz, ez⟩ := (h2 y.1).2 ⟨y, hy, rfl⟩
          exact ltB_ne (hlt z hz) (ez.trans k)
theorem joinS_groups (l : List Fld) (h : InOrder l) : Groups l (joinS l) := by
  have : ∀ k, k ≤ l.length → Groups (l.take k) (joinS (l.take k)) := by
    intro k
    induction k with
    | zero => intro _; exact ⟨List.Pairwise.nil, fun c => by simp [joinS], fun f hf => by simp [joinS] at hf⟩
    | succ k ih =>
      intro hk
      rw [List.take_succ_eq_append_getElem hk, joinS_snoc]
      refine (ih (by omega)).step fun x hx => ?_
      have h1 : InOrder (l.take (k + 1)) := h.sublist (List.take_sublist _ _)
      rw [List.take_succ_eq_append_getElem hk] at h1
      exact (List.pairwise_append.1 h1).2.2 x hx _ (by simp)
  have := this l.length (Nat.le_refl _)
  rwa [List.take_length] at this
theorem normF_groups (fs : List Fld) : Groups fs (normF fs) := by
  obtain ⟨h1, h2⟩ := sortS_spec fs
  obtain ⟨g1, g2, g3⟩ := joinS_groups _ h1
  have hm : ∀ c, (∃ f ∈ sortS fs, f.1 = c) ↔ ∃ f ∈ fs, f.1 = c := fun c => by
    have e := h2 c
    constructor
    · rintro ⟨f, hf, rfl⟩
      have : f ∈ fs.filter (fun x => decide (x.1 = f.1)) := by rw [← e]; exact List.mem_filter.2 ⟨hf, by simp⟩
      exact ⟨f, (List.mem_filter.1 this).1, rfl⟩
    · rintro ⟨f, hf, rfl⟩
      have : f ∈ (sortS fs).filter (fun x => decide (x.1 = f.1)) := by rw [e]; exact List.mem_filter.2 ⟨hf, by simp⟩
      exact ⟨f, (List.mem_filter.1 this).1, rfl⟩
  refine ⟨g1, fun c => (g2 c).trans (hm c), fun f hf => ?_⟩
  rw [g3 f hf]
  unfold txtOf
  rw [h2]
theorem groups_unique {l o p : List Fld} (h : Groups l o) (k : Groups l p) : o = p := by
  refine order_unique o p (h.rising.imp fun hxy => ltB_asymm hxy) (k.rising.imp fun hxy => ltB_asymm hxy) fun c => ?_
  have one : ∀ {q : List Fld}, Groups l q → q.filter (fun x => decide (x.1 = c)) = if ∃ f ∈ l, f.1 = c then [(c, txtOf l c)] else [] := by
    intro q hq
    split
    · rename_i hex
      obtain ⟨f, hf, rfl⟩ := (hq.names c).2 hex
      obtain ⟨a, b, rfl⟩ := List.append_of_mem hf
      have hr := List.pairwise_append.1 hq.rising
      have hr2 := List.pairwise_cons.1 hr.2.1
      have ha : a.filter (fun x => decide (x.1 = f.1)) = [] := List.filter_eq_nil_iff.2 fun x hx e => ltB_ne (hr.2.2 x hx f (by simp)) (by simpa using e)
      have hb : b.filter (fun x => decide (x.1 = f.1)) = [] := List.filter_eq_nil_iff.2 fun x hx e => ltB_ne (hr2.1 x hx) (Eq.symm (of_decide_eq_true e))
      rw [List.filter_append, ha, List.filter_cons_of_pos (by simp), hb, List.nil_append, ← hq.texts f (by simp)]
    · rename_i hex
      refine List.filter_eq_nil_iff.2 fun x hx e => hex ((hq.names c).1 ⟨x, hx, by simpa using e⟩)
  rw [one h, one k]
end Go.Proofs.YtpdccbeeoapplaaGreatDoor

namespace Go.Proofs.YtpdccbeeoapplaaGreatDoor
open Go.RowKit Go.Lib
end Go.Proofs.YtpdccbeeoapplaaGreatDoor

namespace Go.Proofs.YtpdccbeeoapplaaGreatDoor
open Go.RowKit Go.Lib
end Go.Proofs.YtpdccbeeoapplaaGreatDoor

namespace Go.Proofs.YtpdccbeeoapplaaGreatDoor
open Go.RowKit
theorem str_ne {s t : ByteArray} (h : ¬ s = t) : (s.toList == t.toList) = false := by
  rw [Lib.toList_data, Lib.toList_data, beq_eq_false_iff_ne]
  intro e
  apply h
  obtain ⟨⟨s⟩⟩ := s
  obtain ⟨⟨t⟩⟩ := t
  simp at e
  rw [e]
set_option maxHeartbeats 1000000 in
set_option maxRecDepth 100000 in
theorem sameT_any (p q : Option Addr) (cap cap' : Nat) (ts us : List ByteArray) (w : World) (h1 : TxtAt w p ts) (h2 : TxtAt w q us) (hl1 : ts.length ≤ maxLen) :
    Calls Tryz.prog 59 #[.slice p ts.length cap, .slice q us.length cap'] w fun e w' => e = .returned (.bool (decide (ts = us))) ∧ ∃ n, w' = w.drewN n := by
  unfold maxLen at hl1
  obtain ⟨r, hr⟩ : ∃ r, decide (ts = us) = r := ⟨_, rfl⟩
  rw [hr]
  have HR := hid hr
  have H1 := hid h1
  have H2 := hid h2
  clear hr h1 h2
  by_cases hl : ts.length = us.length
  · have hb : ((ts.length : Int) != (us.length : Int)) = false := by simp [hl]
    have HL := hid hl
    clear hl
    go_enter Tryz.func59, Tryz.ntmps59
    go_wp2_with fail
    go_loopg [5] ts.length (fun g vi wr => ∃ i m : Nat, vi = .int .i64 i ∧ i ≤ ts.length ∧ ts.length - i ≤ g ∧ wr = w.drewN m ∧ Hid (∀ j, j < i → ts[j]? = us[j]?))
    case atStart => exact ⟨0, 0, rfl, by omega, by omega, rfl, fun j h => by omega⟩
    case round =>
      obtain ⟨i, m, rfl, hi, hg, rfl, HJ⟩ := hrel
      by_cases hlt : i < ts.length
      · have hlt2 : i < us.length := by rw [← HL.out]; exact hlt
        have i1 : (0 : Int) ≤ ↑i := by omega
        have i2 : (↑i : Int) < ↑ts.length := by omega
        have i3 : (↑i : Int) < ↑us.length := by omega
        rcases H1.out with hn | ⟨b1, o1, rfl, k1⟩
        · rw [hn] at hlt; simp at hlt
        rcases H2.out with hn | ⟨b2, o2, rfl, k2⟩
        · rw [hn] at hlt2; simp at hlt2
        have e1 := k1 i hlt
        have e2 := k2 i hlt2
        have g1 : ts[i]? = some ts[i] := List.getElem?_eq_getElem hlt
        have g2 : us[i]? = some us[i] := List.getElem?_eq_getElem hlt2
        clear k1 k2
        obtain ⟨s, hs⟩ : ∃ s, ts[i] = s := ⟨_, rfl⟩
        obtain ⟨t, ht⟩ : ∃ t, us[i] = t := ⟨_, rfl⟩
        rw [hs] at e1 g1
        rw [ht] at e2 g2
        have G1 := hid g1
        have G2 := hid g2
        clear hs ht g1 g2
        by_cases hst : s = t
        · subst hst
          go_wp2_with fail
          go_quiet (fail)
          go_wp2_with fail
          go_roundg (ts.length - (i + 1))
          case measure => omega
          refine ⟨i + 1, _, by go_num, by omega, by omega, rfl, fun j hj => ?_⟩
          by_cases e : j = i
          · subst e; rw [G1.out, G2.out]
          · exact HJ.out j (by omega)
        · have hne := str_ne hst
          have H0 : Hid (r = false) := HR.out.symm.trans (decide_eq_false fun e => hst (by
            have := G1.out
            rw [e, G2.out] at this
            exact (Option.some.inj this).symm))
          go_wp2_with fail
          go_quiet (fail)
          go_wp2_with fail
          go_ret
          exact ⟨ret_bool H0.out.symm, _, by rw [World.drewN_drewN]⟩
      · have hltz : ¬ (i : Int) < (ts.length : Int) := by omega
        have H0 : Hid (r = true) := HR.out.symm.trans (decide_eq_true (List.ext_getElem? fun j => by
          by_cases hj : j < ts.length
          · exact HJ.out j (by omega)
          · rw [List.getElem?_eq_none (by omega), List.getElem?_eq_none (by have := HL.out; omega)]))
        go_wp2_with fail
        go_ret
        exact ⟨ret_bool H0.out.symm, _, rfl⟩
  · have hb : ((ts.length : Int) != (us.length : Int)) = true := by simp; omega
    have H0 : Hid (r = false) := HR.out.symm.trans (decide_eq_false fun e => hl (by rw [e]))
    go_enter Tryz.func59, Tryz.ntmps59
    go_wp2_with fail
    go_ret
    exact ⟨ret_bool H0.out.symm, 0, rfl⟩
set_option maxHeartbeats 2000000 in
set_option maxRecDepth 100000 in
theorem sameF_any (v u : Value) (d e : List Fx) (w : World) (hv : IsXs w v d) (hu : IsXs w u e) (hf : FitX d) (hg : FitX e) :
    Calls Tryz.prog 29 #[v, u] w fun r w' => r = .returned (.bool (decide (d.map Fx.fld = e.map Fx.fld))) ∧ ∃ n, w' = w.drewN n := by
  obtain ⟨p, cap, rfl, hd, ht⟩ := hv
  obtain ⟨q, cap', rfl, he, ht'⟩ := hu
  have hl1 := hf.1
  have hl2 := hg.1
  unfold maxLen at hl1 hl2
  have HF := hid hf.2
  have HG := hid hg.2
  have HD := hid hd
  have HE := hid he
  have HT := hid ht
  have HT' := hid ht'
  obtain ⟨r, hr⟩ : ∃ r, decide (d.map Fx.fld = e.map Fx.fld) = r := ⟨_, rfl⟩
  rw [hr]
  have HR := hid hr
  clear hr hd he ht ht' hf hg
  by_cases hl : d.length = e.length
  · have hb : ((d.length : Int) != (e.length : Int)) = false := by simp [hl]
    have HL := hid hl
    clear hl
    go_enter Tryz.func29, Tryz.ntmps29
    go_wp2_with fail
    go_loopg [5] d.length (fun g vi wr => ∃ i m : Nat, vi = .int .i64 i ∧ i ≤ d.length ∧ d.length - i ≤ g ∧ wr = w.drewN m ∧ Hid (∀ j, j < i → (d.map Fx.fld)[j]? = (e.map Fx.fld)[j]?))
    case atStart => exact ⟨0, 0, rfl, by omega, by omega, rfl, fun j h => by omega⟩
    case round =>
      obtain ⟨i, m, rfl, hi, hgk, rfl, HJ⟩ := hrel
      by_cases hlt : i < d.length
      · have hlt2 : i < e.length := by rw [← HL.out]; exact hlt
        have i1 : (0 : Int) ≤ ↑i := by omega
        have i2 : (↑i : Int) < ↑d.length := by omega
        have i3 : (↑i : Int) < ↑e.length := by omega
        rcases HD.out with hn | ⟨b1, o1, rfl, k1⟩
        · rw [hn] at hlt; simp at hlt
        rcases HE.out with hn | ⟨b2, o2, rfl, k2⟩
        · rw [hn] at hlt2; simp at hlt2
        obtain ⟨x0, x1⟩ := k1 i hlt
        obtain ⟨y0, y1⟩ := k2 i hlt2
        have g1 : (d.map Fx.fld)[i]? = some (d[i]).fld := by rw [List.getElem?_map, List.getElem?_eq_getElem hlt]; rfl
        have g2 : (e.map Fx.fld)[i]? = some (e[i]).fld := by rw [List.getElem?_map, List.getElem?_eq_getElem hlt2]; rfl
        have fx := HF.out _ (List.getElem_mem hlt)
        have fy := HG.out _ (List.getElem_mem hlt2)
        have tx := HT.out _ (List.getElem_mem hlt)
        have ty := HT'.out _ (List.getElem_mem hlt2)
        clear k1 k2
        obtain ⟨x, hx⟩ : ∃ x, d[i] = x := ⟨_, rfl⟩
        obtain ⟨y, hy⟩ : ∃ y, e[i] = y := ⟨_, rfl⟩
        rw [hx] at x0 x1 g1 fx tx
        rw [hy] at y0 y1 g2 fy ty
        unfold Fx.sl at x1 y1
        have G1 := hid g1
        have G2 := hid g2
        obtain ⟨W, hW⟩ : ∃ W, w.drewN m = W := ⟨_, rfl⟩
        have HC : Hid (∀ n, Calls Tryz.prog 59 #[.slice x.p x.txt.length x.cap, .slice y.p y.txt.length y.cap] (W.drewN n) fun r w' => r = .returned (.bool (decide (x.txt = y.txt))) ∧ ∃ k, w' = (W.drewN n).drewN k) := fun n => by
          subst hW
          exact sameT_any _ _ _ _ _ _ _ tx ty fx.2.1
        replace x0 : W.cell? ⟨b1, o1 + i * 2, none⟩ = some (.string x.name) := by subst hW; exact x0
        replace x1 : W.cell? ⟨b1, o1 + i * 2 + 1, none⟩ = some (.slice x.p x.txt.length x.cap) := by subst hW; exact x1
        replace y0 : W.cell? ⟨b2, o2 + i * 2, none⟩ = some (.string y.name) := by subst hW; exact y0
        replace y1 : W.cell? ⟨b2, o2 + i * 2 + 1, none⟩ = some (.slice y.p y.txt.length y.cap) := by subst hW; exact y1
        have HW := hid hW
        rw [hW]
        have mixed := Tryz.mixed
        clear hx hy g1 g2 fx fy tx ty hW
        by_cases hst : x.name = y.name
        · obtain ⟨nm, hnm⟩ : ∃ nm, y.name = nm := ⟨_, rfl⟩
          rw [hst, hnm] at x0
          rw [hnm] at y0
          have HN : Hid (x.name = nm ∧ y.name = nm) := ⟨hst.trans hnm, hnm⟩
          clear hst hnm
          by_cases hts : x.txt = y.txt
          · have hd := decide_eq_true hts
            have HTS := hid hts
            rw [hd] at HC
            clear hd hts
            go_wp2_with fail
            refine wp_region_quiet_lit mixed (by kernel_rfl) ?_
            repeat (go_big_quiet_step (first | (go_at_call 59; refine Calls.quiet_of (HC.out _))))
            refine wpQuiet_nil ?_
            intro _ hw'
            obtain ⟨nq, hw''⟩ := hw'
            subst hw''
            go_wp2_with fail
            go_roundg (d.length - (i + 1))
            case measure => omega
            refine ⟨i + 1, m + nq, by go_num, by omega, by omega, by rw [← HW.out, World.drewN_drewN], fun j hj => ?_⟩
            by_cases ej : j = i
            · subst ej
              rw [G1.out, G2.out]
              unfold Fx.fld
              rw [HN.out.1, HN.out.2, HTS.out]
            · exact HJ.out j (by omega)
          · have hd := decide_eq_false hts
            rw [hd] at HC
            have H0 : Hid (r = false) := HR.out.symm.trans (decide_eq_false fun ee => hts (by
              have := G1.out
              rw [ee, G2.out] at this
              have := congrArg Prod.snd (Option.some.inj this)
              exact this.symm))
            clear hd hts
            go_wp2_with fail
            refine wp_region_quiet_lit mixed (by kernel_rfl) ?_
            repeat (go_big_quiet_step (first | (go_at_call 59; refine Calls.quiet_of (HC.out _))))
            refine wpQuiet_nil ?_
            intro _ hw'
            obtain ⟨nq, hw''⟩ := hw'
            subst hw''
            go_wp2_with fail
            go_ret
            exact ⟨ret_bool H0.out.symm, m + nq, by rw [← HW.out, World.drewN_drewN]⟩
        · have hne := str_ne hst
          have H0 : Hid (r = false) := HR.out.symm.trans (decide_eq_false fun ee => hst (by
            have := G1.out
            rw [ee, G2.out] at this
            have := congrArg Prod.fst (Option.some.inj this)
            exact this.symm))
          go_wp2_with fail
          refine wp_region_quiet_lit mixed (by kernel_rfl) ?_
          repeat (go_big_quiet_step (first | (go_at_call 59; refine Calls.quiet_of (HC.out _))))
          refine wpQuiet_nil ?_
          intro _ hw'
          obtain ⟨nq, hw''⟩ := hw'
          subst hw''
          go_wp2_with fail
          go_ret
          exact ⟨ret_bool H0.out.symm, m + nq, by rw [← HW.out, World.drewN_drewN]⟩
      · have hltz : ¬ (i : Int) < (d.length : Int) := by omega
        have H0 : Hid (r = true) := HR.out.symm.trans (decide_eq_true (List.ext_getElem? fun j => by
          by_cases hj : j < d.length
          · exact HJ.out j (by omega)
          · rw [List.getElem?_eq_none (by simp; omega), List.getElem?_eq_none (by have := HL.out; simp; omega)]))
        go_wp2_with fail
        go_ret
        exact ⟨ret_bool H0.out.symm, _, rfl⟩
  · have hb : ((d.length : Int) != (e.length : Int)) = true := by simp; omega
    have H0 : Hid (r = false) := HR.out.symm.trans (decide_eq_false fun ee => hl (by have := congrArg List.length ee; simpa using this))
    go_enter Tryz.func29, Tryz.ntmps29
    go_wp2_with fail
    go_ret
    exact ⟨ret_bool H0.out.symm, 0, rfl⟩
end Go.Proofs.YtpdccbeeoapplaaGreatDoor

namespace Go.Proofs.YtpdccbeeoapplaaGreatDoor
open Go.RowKit Go.Lib
def codeF (fs : List Fld) : Int := if fs.any misB then 2 else if (normF fs).any bareB then 3 else if mayB (normF fs) then 0 else 5
def ansF (fs : List Fld) : List Fld := if codeF fs = 0 then normF fs else []
theorem codeF_zero {fs : List Fld} (h : codeF fs = 0) : fs.any misB = false ∧ (normF fs).any bareB = false ∧ mayB (normF fs) = true := by
  unfold codeF at h
  cases h1 : fs.any misB with
  | true => rw [h1] at h; simp at h
  | false =>
    cases h2 : (normF fs).any bareB with
    | true => rw [h1, h2] at h; simp at h
    | false =>
      cases h3 : mayB (normF fs) with
      | true => exact ⟨rfl, rfl, rfl⟩
      | false => rw [h1, h2, h3] at h; simp at h
theorem may_fit {d : List Fx} {fs : List Fld} (hmay : mayB fs = true) (hm : d.map Fx.fld = fs) : FitX d := by
  have hl := (may_parts hmay).1
  refine ⟨?_, fun x hx => ?_⟩
  · rw [← hm, List.length_map] at hl
    unfold maxLen; omega
  · have hx' : x.fld ∈ fs := by rw [← hm]; exact List.mem_map.2 ⟨x, hx, rfl⟩
    obtain ⟨h1, _, h3, h4, _⟩ := fits_parts (may_fits hmay _ hx')
    refine ⟨?_, ?_, fun t ht => ?_⟩
    · unfold maxLen; omega
    · unfold maxLen; omega
    · have := h4 t ht; unfold maxLen; omega
theorem ans_fit {d : List Fx} {fs : List Fld} (hm : d.map Fx.fld = ansF fs) : FitX d := by
  unfold ansF at hm
  split at hm
  · rename_i h
    exact may_fit (codeF_zero h).2.2 hm
  · rw [List.map_eq_nil_iff] at hm
    subst hm
    exact ⟨by unfold maxLen; simp, fun x hx => by simp at hx⟩
theorem own_none (N : Nat) (w : World) : OwnXs N w (.slice none 0 0) [] := ⟨World.ownsRow_nil _ _ _ _, fun x hx => by simp at hx⟩
theorem ansPlain {N : Nat} {fs : List Fld} {e : Ending} {w' : World}
    (h : (fs.any misB = true ∧ e = .returned (.tuple #[.slice none 0 0, .int .i64 2])) ∨
    (fs.any misB = false ∧
     (((normF fs).any bareB = true ∧ e = .returned (.tuple #[.slice none 0 0, .int .i64 3])) ∨
      ((normF fs).any bareB = false ∧ mayB (normF fs) = false ∧ e = .returned (.tuple #[.slice none 0 0, .int .i64 5])) ∨
      ((normF fs).any bareB = false ∧ mayB (normF fs) = true ∧ ∃ u o, e = .returned (.tuple #[u, .int .i64 0]) ∧ OwnXs N w' u o ∧ o.map Fx.fld = normF fs)))) :
    ∃ u o, e = .returned (.tuple #[u, .int .i64 (codeF fs)]) ∧ OwnXs N w' u o ∧ o.map Fx.fld = ansF fs := by
  rcases h with ⟨h1, rfl⟩ | ⟨h1, ⟨h2, rfl⟩ | ⟨h2, h3, rfl⟩ | ⟨h2, h3, u, o, rfl, ho, hm⟩⟩
  · have hc : codeF fs = 2 := by unfold codeF; rw [h1]; rfl
    exact ⟨_, [], by rw [hc], own_none _ _, by unfold ansF; rw [hc]; rfl⟩
  · have hc : codeF fs = 3 := by unfold codeF; rw [h1, h2]; rfl
    exact ⟨_, [], by rw [hc], own_none _ _, by unfold ansF; rw [hc]; rfl⟩
  · have hc : codeF fs = 5 := by unfold codeF; rw [h1, h2, h3]; rfl
    exact ⟨_, [], by rw [hc], own_none _ _, by unfold ansF; rw [hc]; rfl⟩
  · have hc : codeF fs = 0 := by unfold codeF; rw [h1, h2, h3]; rfl
    exact ⟨u, o, by rw [hc], ho, by unfold ansF; rw [hc]; exact hm⟩
end Go.Proofs.YtpdccbeeoapplaaGreatDoor

namespace Go.Proofs.YtpdccbeeoapplaaGreatDoor
open Go.RowKit Go.Lib
end Go.Proofs.YtpdccbeeoapplaaGreatDoor

namespace Go.Proofs.YtpdccbeeoapplaaGreatDoor
open Go.RowKit
theorem firstP_plain {c : UInt8} {r : List UInt8} (h : plainB (c.toNat : Int) = true) : firstP (c :: r) = some (c, 1) := by
  simp [firstP, h]
theorem pct_plain : plainB 37 = false := by decide
theorem firstP_hex {a b : UInt8} {r : List UInt8} : firstP (37 :: a :: b :: r) = if hexN a = 16 ∨ hexN b = 16 then none else if plainB ((UInt8.ofNat (16 * hexN a + hexN b)).toNat : Int) then none else some (UInt8.ofNat (16 * hexN a + hexN b), 3) := by
  have e : firstP (37 :: a :: b :: r) = if hexv a < 0 ∨ hexv b < 0 then none else
      if plainB ((UInt8.ofNat (16 * (hexv a).toNat + (hexv b).toNat)).toNat : Int) then none else some (UInt8.ofNat (16 * (hexv a).toNat + (hexv b).toNat), 3) := by
    simp [firstP, pct_plain]
  rw [e, hexN_eq a, hexN_eq b]
  by_cases ha : hexN a = 16
  · rw [if_pos (Or.inl (by rw [if_pos ha]; decide)), if_pos (Or.inl ha)]
  · by_cases hb : hexN b = 16
    · rw [if_pos (Or.inr (by rw [if_pos hb]; decide)), if_pos (Or.inr hb)]
    · rw [if_neg (show ¬ (hexN a = 16 ∨ hexN b = 16) by omega), if_neg (show ¬ ((if hexN a = 16 then (-1 : Int) else (hexN a : Int)) < 0 ∨ (if hexN b = 16 then (-1 : Int) else (hexN b : Int)) < 0) by rw [if_neg ha, if_neg hb]; omega), if_neg ha, if_neg hb, Int.toNat_natCast, Int.toNat_natCast]
end Go.Proofs.YtpdccbeeoapplaaGreatDoor

namespace Go.Proofs.YtpdccbeeoapplaaGreatDoor
open Go.RowKit
theorem hexd_table : ((List.range 16).all fun k => decide (hexN (hexd k) = k)) = true := by decide
theorem hexN_hexd {k : Nat} (h : k < 16) : hexN (hexd k) = k := by
  have := List.all_eq_true.1 hexd_table k (List.mem_range.2 h)
  exact of_decide_eq_true this
theorem read_write (l : List UInt8) : readL (writeL l) = some l := by
  induction l with
  | nil => exact readL_nil
  | cons c l ih =>
    rw [writeL_cons]
    cases hp : plainB (c.toNat : Int) with
    | true =>
      have e : writeC c = [c] := by unfold writeC; rw [if_pos hp]
      rw [e, List.cons_append, List.nil_append, readL_some (firstP_plain hp)]
      show (readL (writeL l)).map _ = _
      rw [ih]; rfl
    | false =>
      have e : writeC c = [37, hexd (c.toNat / 16), hexd (c.toNat % 16)] := by unfold writeC; rw [hp]; rfl
      have hc := c.toNat_lt
      have h1 : hexN (hexd (c.toNat / 16)) = c.toNat / 16 := hexN_hexd (by omega)
      have h2 : hexN (hexd (c.toNat % 16)) = c.toNat % 16 := hexN_hexd (by omega)
      have hs : UInt8.ofNat (16 * (c.toNat / 16) + c.toNat % 16) = c := by
        rw [show 16 * (c.toNat / 16) + c.toNat % 16 = c.toNat by omega, UInt8.ofNat_toNat]
      have hf : firstP (37 :: hexd (c.toNat / 16) :: hexd (c.toNat % 16) :: writeL l) = some (c, 3) := by
        rw [firstP_hex, h1, h2, if_neg (by omega), hs, if_neg (by rw [hp]; simp)]
      rw [e]
      show readL (37 :: hexd (c.toNat / 16) :: hexd (c.toNat % 16) :: writeL l) = _
      rw [readL_some hf]
      show (readL (writeL l)).map _ = _
      rw [ih]; rfl
end Go.Proofs.YtpdccbeeoapplaaGreatDoor

namespace Go.Proofs.YtpdccbeeoapplaaGreatDoor
open Go.RowKit Go.Lib
theorem ix_here {a b : List UInt8} {c : UInt8} (h : c ∉ a) : Lib.indexByte (a ++ c :: b) c = (a.length : Int) := by
  rcases ix_cases (a ++ c :: b) c with ⟨_, h2⟩ | ⟨i, h1, h2, h3, h4⟩
  · exact absurd (by simp) h2
  · have h5 := ix_split _ c i h2 h3
    have := (ix_uniq h5 h h4).1
    rw [h1, this, List.length_take]
    omega
theorem ix_none {a : List UInt8} {c : UInt8} (h : c ∉ a) : Lib.indexByte a c = -1 := by
  rcases ix_cases a c with ⟨h1, _⟩ | ⟨i, _, h2, h3, _⟩
  · exact h1
  · exact absurd (List.mem_of_getElem? h3) h
theorem split_join : ∀ ws : List (List UInt8), ws ≠ [] → (∀ w ∈ ws, (32 : UInt8) ∉ w) → splitL (Lib.join ws [32]) = ws
  | [], h, _ => absurd rfl h
  | [w], _, h => by
    rw [Lib.join_one]
    exact splitL_no (ix_none (h w (by simp)))
  | w :: v :: ws, _, h => by
    have ih := split_join (v :: ws) (by simp) (fun x hx => h x (by simp [hx]))
    rw [join_two, splitL_yes (ix_here (h w (by simp)))]
    rw [List.take_left' rfl]
    congr 1
    rw [show w ++ 32 :: Lib.join (v :: ws) [32] = (w ++ [32]) ++ Lib.join (v :: ws) [32] by simp, List.drop_left' (by simp)]
    exact ih
theorem noblank_mem {l : List UInt8} (h : blanks l = 0) : (32 : UInt8) ∉ l := by
  intro hm
  have := List.countP_eq_zero.1 h 32 hm
  simp at this
theorem field_noeq {l : List UInt8} (h : fieldB l = true) : (61 : UInt8) ∉ l := by
  intro hc
  unfold fieldB spell at h
  cases l with
  | nil => simp at hc
  | cons x r =>
    simp only [Bool.and_eq_true, List.all_eq_true] at h
    have key : lodB ((61 : UInt8).toNat : Int) = true ∨ smallB ((61 : UInt8).toNat : Int) = true := by
      rcases List.mem_cons.1 hc with e | hc
      · exact Or.inr (by rw [e]; exact h.1.2)
      · exact Or.inl (h.2 _ hc)
    rcases key with k | k
    · revert k; decide
    · revert k; decide
theorem word_back {n t : ByteArray} (h : fieldB n.data.toList = true) : wordO (wordOf n t).data.toList = some (n.data.toList, t.data.toList) := by
  rw [word_data, List.append_assoc, List.singleton_append]
  have e := ix_here (b := writeL t.data.toList) (field_noeq h)
  unfold wordO
  rw [e, if_neg (by omega), Int.toNat_natCast, List.take_left' rfl]
  rw [show n.data.toList ++ 61 :: writeL t.data.toList = (n.data.toList ++ [61]) ++ writeL t.data.toList by simp, List.drop_left' (by simp), read_write]
  rfl
def singles (fs : List Fld) : List Fld := fs.flatMap fun f => f.2.map fun t => (f.1, [t])
theorem ba_back (b : ByteArray) : (⟨b.data.toList.toArray⟩ : ByteArray) = b := by obtain ⟨⟨l⟩⟩ := b; rfl
theorem words_back (fs : List Fld) (h : ∀ f ∈ fs, fieldB f.1.data.toList = true) : fieldsW ((wordsL fs).map (·.data.toList)) = some (singles fs) := by
  induction fs with
  | nil => rfl
  | cons f fs ih =>
    have hf := h f (by simp)
    have ih := ih fun g hg => h g (by simp [hg])
    have e1 : fieldsW ((wordsF f).map (·.data.toList)) = some (f.2.map fun t => (f.1, [t])) := by
      unfold wordsF
      generalize f.2 = ts
      induction ts with
      | nil => rfl
      | cons t ts iht =>
        simp only [List.map_cons, fieldsW]
        rw [word_back hf]
        simp only
        rw [iht, ba_back, ba_back]
        rfl
    unfold wordsL at ih ⊢
    rw [List.flatMap_cons, List.map_append, fieldsW_append, e1, ih]
    rfl
theorem single_filter (f : Fld) (c : ByteArray) : ((f.2.map fun t => ((f.1, [t]) : Fld)).filter fun x => decide (x.1 = c)).flatMap (·.2) = if f.1 = c then f.2 else [] := by
  obtain ⟨n, ts⟩ := f
  simp only
  by_cases e : n = c
  · rw [if_pos e, List.filter_eq_self.2 (fun x hx => by obtain ⟨t, _, rfl⟩ := List.mem_map.1 hx; simp [e])]
    induction ts with
    | nil => rfl
    | cons t ts ih => rw [List.map_cons, List.flatMap_cons, ih]; rfl
  · rw [if_neg e, List.filter_eq_nil_iff.2 (fun x hx => by obtain ⟨t, _, rfl⟩ := List.mem_map.1 hx; simp [e])]
    rfl
theorem txt_singles (fs : List Fld) (c : ByteArray) : txtOf (singles fs) c = txtOf fs c := by
  induction fs with
  | nil => rfl
  | cons f fs ih =>
    unfold txtOf singles at *
    rw [List.flatMap_cons, List.filter_append, List.flatMap_append, single_filter, ih]
    by_cases e : f.1 = c
    · rw [if_pos e, List.filter_cons_of_pos (by simp [e]), List.flatMap_cons]
    · rw [if_neg e, List.filter_cons_of_neg (by simp [e]), List.nil_append]
theorem may_rising {fs : List Fld} (h : mayB fs = true) : Rising fs := by
  have hs := (may_parts h).2
  have step : ∀ i, (hi : i + 1 < fs.length) → ltB (fs[i]).1 (fs[i + 1]).1 = true := fun i hi => by
    have := hs (i + 1) hi
    unfold stepOk at this
    rw [Bool.and_eq_true, Bool.or_eq_true] at this
    rcases this.2 with h | h
    · have := of_decide_eq_true h; omega
    · rw [ltN_eq, Nat.add_sub_cancel, List.getD_eq_getElem?_getD, List.getD_eq_getElem?_getD, List.getElem?_eq_getElem hi, List.getElem?_eq_getElem (show i < fs.length by omega)] at h
      exact h
  refine List.pairwise_iff_getElem.2 fun i j hi hj hij => ?_
  induction j with
  | zero => omega
  | succ j ih =>
    by_cases e : i = j
    · subst e; exact step i hj
    · exact ltB_trans (ih (by omega) (by omega)) (step j hj)
theorem rising_txt {fs : List Fld} (h : Rising fs) : ∀ f ∈ fs, f.2 = txtOf fs f.1 := by
  intro f hf
  obtain ⟨a, b, rfl⟩ := List.append_of_mem hf
  have hr := List.pairwise_append.1 h
  have hr2 := List.pairwise_cons.1 hr.2.1
  have ha : a.filter (fun x => decide (x.1 = f.1)) = [] := List.filter_eq_nil_iff.2 fun x hx e => ltB_ne (hr.2.2 x hx f (by simp)) (by simpa using e)
  have hb : b.filter (fun x => decide (x.1 = f.1)) = [] := List.filter_eq_nil_iff.2 fun x hx e => ltB_ne (hr2.1 x hx) (Eq.symm (of_decide_eq_true e))
  unfold txtOf
  rw [List.filter_append, ha, List.filter_cons_of_pos (by simp), hb]
  simp
theorem groups_singles {fs : List Fld} (h : Rising fs) (hne : ∀ f ∈ fs, f.2 ≠ []) : Groups (singles fs) fs := by
  refine ⟨h, fun c => ⟨?_, ?_⟩, fun f hf => ?_⟩
  · rintro ⟨f, hf, rfl⟩
    cases ht : f.2 with
    | nil => exact absurd ht (hne f hf)
    | cons t ts => exact ⟨(f.1, [t]), List.mem_flatMap.2 ⟨f, hf, List.mem_map.2 ⟨t, by rw [ht]; simp, rfl⟩⟩, rfl⟩
  · rintro ⟨x, hx, rfl⟩
    obtain ⟨f, hf, hx⟩ := List.mem_flatMap.1 hx
    obtain ⟨t, _, rfl⟩ := List.mem_map.1 hx
    exact ⟨f, hf, rfl⟩
  · rw [txt_singles]; exact rising_txt h f hf
theorem fits_ne {f : Fld} (h : fitsB f = true) : f.2 ≠ [] := fun e => by
  have := (fits_parts h).2.1
  rw [e] at this; simp at this
theorem may_nobare {fs : List Fld} (h : mayB fs = true) : fs.any bareB = false := by
  rw [List.any_eq_false]
  intro f hf hb
  exact fits_ne (may_fits h f hf) (List.isEmpty_iff.1 hb)
def fieldsP (l : List UInt8) : Option (List Fld) := if l = [] then some [] else fieldsW (splitL l)
def codeP (l : List UInt8) : Int := match fieldsP l with
  | none => 4
  | some fs => codeF fs
def ansP (l : List UInt8) : List Fld := match fieldsP l with
  | none => []
  | some fs => ansF fs
theorem norm_singles {fs : List Fld} (h : mayB fs = true) : codeF (singles fs) = 0 ∧ ansF (singles fs) = fs := by
  have hn : normF (singles fs) = fs := groups_unique (normF_groups _) (groups_singles (may_rising h) fun f hf => fits_ne (may_fits h f hf))
  have hm : (singles fs).any misB = false := by
    rw [List.any_eq_false]
    intro x hx
    obtain ⟨f, hf, hx⟩ := List.mem_flatMap.1 hx
    obtain ⟨t, _, rfl⟩ := List.mem_map.1 hx
    have := (fits_parts (may_fits h f hf)).2.2.2.2
    simp [misB, this]
  have hc : codeF (singles fs) = 0 := by unfold codeF; rw [hm, hn, may_nobare h, h]; rfl
  exact ⟨hc, by unfold ansF; rw [hc, hn]; rfl⟩
theorem codeF_nil : codeF [] = 0 := by decide
theorem ansF_nil : ansF [] = [] := by decide
def PPost (w : World) (l : List UInt8) (e : Ending) (w' : World) : Prop :=
  (∃ u o, e = .returned (.tuple #[u, .int .i64 (codeP l)]) ∧ OwnXs w.heap.size w' u o ∧ o.map Fx.fld = ansP l) ∧ Below w.heap.size w w'
theorem ansP_fit {d : List Fx} {l : List UInt8} (hm : d.map Fx.fld = ansP l) : FitX d := by
  unfold ansP at hm
  cases h : fieldsP l with
  | none =>
    rw [h] at hm
    rw [List.map_eq_nil_iff] at hm
    subst hm
    exact ⟨by unfold maxLen; simp, fun x hx => by simp at hx⟩
  | some fs => rw [h] at hm; exact ans_fit hm
theorem parse_plain (s : ByteArray) (w : World) (hp : PlainAt w) (hs : s.size ≤ 3000000000000) :
    Calls Tryz.prog 96 #[.string s] w fun e w' => PPost w s.data.toList e w' := by
  refine (parse_any s w hp hs).mono fun e w' h => ⟨?_, h.2⟩
  rcases h.1 with ⟨h0, rfl⟩ | ⟨h0, h1, rfl⟩ | ⟨h0, fs, d, h1, h2, h3⟩
  · have hf : fieldsP s.data.toList = some [] := by unfold fieldsP; rw [if_pos h0]
    exact ⟨_, [], by unfold codeP; rw [hf]; simp only [codeF_nil], own_none _ _, by unfold ansP; rw [hf]; simp only [ansF_nil]; rfl⟩
  · have hf : fieldsP s.data.toList = none := by unfold fieldsP; rw [if_neg h0]; exact h1
    exact ⟨_, [], by unfold codeP; rw [hf], own_none _ _, by unfold ansP; rw [hf]; rfl⟩
  · have hf : fieldsP s.data.toList = some fs := by unfold fieldsP; rw [if_neg h0]; exact h1
    unfold codeP ansP
    rw [hf]
    subst h2
    refine ansPlain ?_
    rcases h3.plain with h | ⟨h1, h | h | ⟨h2, h3, u, o, h4, h5, h6⟩⟩
    · exact Or.inl h
    · exact Or.inr ⟨h1, Or.inl h⟩
    · exact Or.inr ⟨h1, Or.inr (Or.inl h)⟩
    · exact Or.inr ⟨h1, Or.inr (Or.inr ⟨h2, h3, u, o, h4, h5.1, h6⟩)⟩
end Go.Proofs.YtpdccbeeoapplaaGreatDoor

namespace Go.Proofs.YtpdccbeeoapplaaGreatDoor
open Go.RowKit Go.Lib
def wordsAns (l : List UInt8) : List (List UInt8) := if l = [] then [] else splitL l
theorem own_snoc {n0 : Nat} {w : World} {v : Value} {ts : List ByteArray} {t : ByteArray} (h : w.ownsRow n0 9 1 v (ts.length + 1) (ts.map Value.string ++ [.string t])) : OwnT n0 w v (ts ++ [t]) := by
  unfold OwnT
  simp only [List.length_append, List.length_cons, List.length_nil, List.map_append, List.map_cons, List.map_nil]
  exact h
theorem fieldsP_words (l : List UInt8) : fieldsW (wordsAns l) = fieldsP l := by
  unfold wordsAns fieldsP
  split
  · rfl
  · rfl
end Go.Proofs.YtpdccbeeoapplaaGreatDoor

namespace Go.Proofs.YtpdccbeeoapplaaGreatDoor
open Go.RowKit Go.Lib
def isOp (c : UInt8) : Bool := opN (c.toNat : Int) != 0
def termO (l : List UInt8) : Option Tm :=
  match l.dropWhile (fun c => !isOp c) with
  | [] => none
  | c :: r => match readL r with
    | none => none
    | some t => if 5 < opN (c.toNat : Int) ∧ r ≠ [] then none else some (⟨(l.takeWhile (fun c => !isOp c)).toArray⟩, opN (c.toNat : Int), ⟨t.toArray⟩)
def termsW : List (List UInt8) → Option (List Tm)
  | [] => some []
  | l :: ls => match termO l with
    | none => none
    | some x => (termsW ls).map (x :: ·)
theorem termsW_append (a b : List (List UInt8)) : termsW (a ++ b) = (termsW a).bind fun xs => (termsW b).map (xs ++ ·) := by
  induction a with
  | nil => simp [termsW]
  | cons l a ih =>
    simp only [List.cons_append, termsW, ih]
    cases termO l with
    | none => rfl
    | some x =>
      cases termsW a with
      | none => rfl
      | some xs => cases termsW b <;> rfl
theorem termsW_no {a b : List (List UInt8)} {l : List UInt8} (h : termO l = none) : termsW (a ++ l :: b) = none := by
  rw [termsW_append]
  cases termsW a with
  | none => rfl
  | some x => simp [termsW, h]
theorem termsW_snoc {a : List (List UInt8)} {l : List UInt8} {xs : List Tm} {x : Tm} (ha : termsW a = some xs) (h : termO l = some x) : termsW (a ++ [l]) = some (xs ++ [x]) := by
  rw [termsW_append, ha]
  simp [termsW, h]
theorem op_split {l : List UInt8} {k : Nat} (hk : k < l.length) (h : ∀ d ∈ l.take k, isOp d = false) (h2 : isOp l[k] = true) :
    l.takeWhile (fun c => !isOp c) = l.take k ∧ l.dropWhile (fun c => !isOp c) = l[k] :: l.drop (k + 1) := by
  have e : l = l.take k ++ l[k] :: l.drop (k + 1) := by
    conv => lhs; rw [← List.take_append_drop k l, List.drop_eq_getElem_cons hk]
  have hp : ∀ d ∈ l.take k, (!isOp d) = true := fun d hd => by rw [h d hd]; rfl
  constructor
  · conv => lhs; rw [e]
    rw [List.takeWhile_append_of_pos hp, List.takeWhile_cons, h2]
    simp
  · conv => lhs; rw [e]
    rw [List.dropWhile_append_of_pos hp, List.dropWhile_cons, h2]
    simp
theorem op_none {l : List UInt8} (h : ∀ d ∈ l, isOp d = false) : termO l = none := by
  have : l.dropWhile (fun c => !isOp c) = [] := by
    induction l with
    | nil => rfl
    | cons c l ih =>
      rw [List.dropWhile_cons, h c (by simp)]
      simpa using ih fun d hd => h d (by simp [hd])
  unfold termO
  rw [this]
def codeW (o : Option (List Tm)) : Int := match o with | none => 4 | some p => mayM p
def ansW (o : Option (List Tm)) : List Tm := match o with | none => [] | some p => ansM p
def TWPost (w : World) (o : Option (List Tm)) (e : Ending) (w' : World) : Prop :=
  (∃ u, e = .returned (.tuple #[u, .int .i64 (codeW o)]) ∧ KM.Own w.heap.size w' u (ansW o)) ∧ Below w.heap.size w w'
end Go.Proofs.YtpdccbeeoapplaaGreatDoor

namespace Go.Proofs.YtpdccbeeoapplaaGreatDoor
open Go.RowKit Go.Lib
theorem op_sign {c : UInt8} (h : isOp c = true) : c = 61 ∨ c = 33 ∨ c = 94 ∨ c = 60 ∨ c = 62 ∨ c = 63 ∨ c = 45 := by
  unfold isOp at h
  rw [bne_iff_ne] at h
  unfold opN at h
  have key : ∀ k : UInt8, (k.toNat : Int) = (c.toNat : Int) → c = k := fun k e => UInt8.toNat_inj.1 (by omega)
  by_cases h1 : (61 : Int) = c.toNat
  · exact Or.inl (key 61 h1)
  by_cases h2 : (33 : Int) = c.toNat
  · exact Or.inr (Or.inl (key 33 h2))
  by_cases h3 : (94 : Int) = c.toNat
  · exact Or.inr (Or.inr (Or.inl (key 94 h3)))
  by_cases h4 : (60 : Int) = c.toNat
  · exact Or.inr (Or.inr (Or.inr (Or.inl (key 60 h4))))
  by_cases h5 : (62 : Int) = c.toNat
  · exact Or.inr (Or.inr (Or.inr (Or.inr (Or.inl (key 62 h5)))))
  by_cases h6 : (63 : Int) = c.toNat
  · exact Or.inr (Or.inr (Or.inr (Or.inr (Or.inr (Or.inl (key 63 h6))))))
  by_cases h7 : (45 : Int) = c.toNat
  · exact Or.inr (Or.inr (Or.inr (Or.inr (Or.inr (Or.inr (key 45 h7))))))
  rw [if_neg h1, if_neg h2, if_neg h3, if_neg h4, if_neg h5, if_neg h6, if_neg h7] at h
  exact absurd rfl h
theorem field_noop {l : List UInt8} (h : fieldB l = true) : ∀ c ∈ l, isOp c = false := by
  intro c hc
  unfold fieldB spell at h
  cases l with
  | nil => simp at hc
  | cons x r =>
    simp only [Bool.and_eq_true, List.all_eq_true] at h
    have key : lodB (c.toNat : Int) = true ∨ smallB (c.toNat : Int) = true := by
      rcases List.mem_cons.1 hc with e | hc
      · exact Or.inr (by rw [e]; exact h.1.2)
      · exact Or.inl (h.2 _ hc)
    cases ho : isOp c with
    | false => rfl
    | true =>
      rcases op_sign ho with rfl | rfl | rfl | rfl | rfl | rfl | rfl <;> (rcases key with k | k <;> (revert k; decide))
theorem opC_is {o : Int} (h1 : 1 ≤ o) (h2 : o ≤ 7) : isOp (opC o) = true := by
  unfold isOp
  rw [opN_opC h1 h2, bne_iff_ne]
  omega
theorem opC_noblank (o : Int) : opC o ≠ 32 := by
  unfold opC
  repeat' split
  all_goals decide
theorem termO_back {x : Tm} (h1 : namedM x = true) (h2 : rightM x = true) : termO (wordM x).data.toList = some x := by
  obtain ⟨n, o, t⟩ := x
  have hr := rightM_range h2
  simp only at hr
  have hno := field_noop h1
  simp only at hno
  rw [wordM_data]
  simp only
  have hk : n.data.toList.length < (n.data.toList ++ opC o :: writeL t.data.toList).length := by simp
  have hg : (n.data.toList ++ opC o :: writeL t.data.toList)[n.data.toList.length] = opC o := by simp
  obtain ⟨e1, e2⟩ := op_split hk (by rw [List.take_left' rfl]; exact hno) (by rw [hg]; exact opC_is hr.1 hr.2)
  rw [List.take_left' rfl] at e1
  rw [hg, show n.data.toList ++ opC o :: writeL t.data.toList = (n.data.toList ++ [opC o]) ++ writeL t.data.toList by simp, List.drop_left' (by simp)] at e2
  unfold termO
  rw [e1, show n.data.toList ++ opC o :: writeL t.data.toList = (n.data.toList ++ [opC o]) ++ writeL t.data.toList by simp, e2]
  simp only
  rw [read_write]
  simp only
  rw [opN_opC hr.1 hr.2, if_neg, ba_back, ba_back]
  rintro ⟨h5, hne⟩
  apply hne
  unfold rightM at h2
  simp only [Bool.and_eq_true, Bool.or_eq_true, decide_eq_true_eq] at h2
  have h0 : t.size = 0 := by
    rcases h2.2 with h | h
    · omega
    · exact h
  have : t.data.toList = [] := List.length_eq_zero_iff.1 (by simpa using h0)
  rw [this]
  rfl
theorem terms_back (p : List Tm) (h : ∀ x ∈ p, namedM x = true ∧ rightM x = true) : termsW ((p.map wordM).map (·.data.toList)) = some p := by
  induction p with
  | nil => rfl
  | cons x p ih =>
    have hx := h x (by simp)
    simp only [List.map_cons, termsW]
    rw [termO_back hx.1 hx.2, ih fun y hy => h y (by simp [hy])]
    rfl
theorem wordM_noblank {x : Tm} (h1 : namedM x = true) : (32 : UInt8) ∉ (wordM x).data.toList := by
  rw [wordM_data, List.mem_append, List.mem_cons]
  rintro (h | h | h)
  · exact noblank_mem (field_noblank h1) h
  · exact opC_noblank _ h.symm
  · exact noblank_mem (write_noblank _) h
theorem ansM_again {p : List Tm} (h : mayM p = 0) : mayM (ansM p) = 0 ∧ ansM (ansM p) = ansM p := by
  have e : ansM p = sortM p := by unfold ansM; rw [if_pos h]
  have h8 := (mayM_zero h).1
  have hl := sortM_len p
  obtain ⟨s1, s2⟩ := sortM_spec p
  rw [e]
  have hm : mayM (sortM p) = 0 := (mayM_perm s2 (by omega) h8).trans h
  refine ⟨hm, ?_⟩
  unfold ansM
  rw [if_pos hm]
  exact (sortM_unique s1 (fun _ => Iff.rfl)).symm
end Go.Proofs.YtpdccbeeoapplaaGreatDoor

namespace Go.Proofs.YtpdccbeeoapplaaGreatDoor
open Go.RowKit Go.Lib
abbrev Ky := ByteArray × ByteArray
end Go.Proofs.YtpdccbeeoapplaaGreatDoor

namespace Go.Proofs.YtpdccbeeoapplaaGreatDoor
open Go.RowKit
abbrev Ed := Int × ByteArray × ByteArray
def encE (x : Ed) : List Value := [.int .i64 x.1, .string x.2.1, .string x.2.2]
def KE : Kind Ed := ⟨49, 3, encE, fun _ => rfl, by decide, fun x u hu => by simp [encE] at hu; rcases hu with rfl | rfl | rfl <;> rfl⟩
def FitE (l : List Ed) : Prop := l.length ≤ maxLen ∧ ∀ x ∈ l, x.2.1.size ≤ maxLen ∧ x.2.2.size ≤ maxLen ∧ -9223372036854775808 ≤ x.1 ∧ x.1 ≤ 9223372036854775807
def namedE (x : Ed) : Bool := fieldB x.2.1.data.toList
def rightE (x : Ed) : Bool := decide (1 ≤ x.1) && decide (x.1 ≤ 5) && (decide (x.1 ≠ 4) || decide (x.2.2.size = 0))
def shortE (x : Ed) : Bool := decide (x.2.2.size ≤ 128)
def mayE (l : List Ed) : Int := if 16 < l.length then 5 else if l.all namedE = false then 2 else if l.all rightE = false then 1 else if l.all shortE = false then 5 else 0
theorem mayE_zero {l : List Ed} (h : mayE l = 0) : l.length ≤ 16 ∧ (∀ x ∈ l, namedE x = true) ∧ (∀ x ∈ l, rightE x = true) ∧ ∀ x ∈ l, shortE x = true := by
  unfold mayE at h
  split at h
  · omega
  · rename_i h1
    split at h
    · omega
    · rename_i h2
      split at h
      · omega
      · rename_i h3
        split at h
        · omega
        · rename_i h4
          exact ⟨by omega, List.all_eq_true.1 (by simpa using h2), List.all_eq_true.1 (by simpa using h3), List.all_eq_true.1 (by simpa using h4)⟩
end Go.Proofs.YtpdccbeeoapplaaGreatDoor

namespace Go.Proofs.YtpdccbeeoapplaaGreatDoor
open Go.RowKit
end Go.Proofs.YtpdccbeeoapplaaGreatDoor

namespace Go.Proofs.YtpdccbeeoapplaaGreatDoor
open Go.RowKit
theorem ke_cells {w : World} {b off : Nat} {p : List Ed} (h : KE.At w b off p) (i : Nat) (hi : i < p.length) :
    w.cell? ⟨b, off + i * 3, none⟩ = some (.int .i64 (p[i]).1) ∧ w.cell? ⟨b, off + i * 3 + 1, none⟩ = some (.string (p[i]).2.1) ∧ w.cell? ⟨b, off + i * 3 + 2, none⟩ = some (.string (p[i]).2.2) :=
  ⟨h i hi 0 _ rfl, h i hi 1 _ rfl, h i hi 2 _ rfl⟩
theorem all_snocE {p : List Ed} {f : Ed → Bool} {i : Nat} (h : i < p.length) : (p.take (i + 1)).all f = ((p.take i).all f && f p[i]) := by
  rw [List.take_succ_eq_append_getElem h, List.all_append]
  simp
set_option maxHeartbeats 4000000 in
set_option maxRecDepth 100000 in
theorem rmayE_any (v : Value) (p : List Ed) (w : World) (hv : KE.Is w v p) (hf : FitE p) :
    Calls Tryz.prog 76 #[v] w fun e w' => e = .returned (.int .i64 (mayE p)) ∧ w' = w := by
  obtain ⟨q, cap, rfl, hd⟩ := hv
  have hl := hf.1
  unfold maxLen at hl
  have HD := hid hd
  have HF := hid hf.2
  obtain ⟨r, hr⟩ : ∃ r, mayE p = r := ⟨_, rfl⟩
  rw [hr]
  have HR := hid hr
  clear hd hf hr
  by_cases h8 : 16 < p.length
  · have h8z : (16 : Int) < (p.length : Int) := by omega
    have H0 : Hid (r = 5) := by show _ = _; rw [← HR.out]; unfold mayE; rw [if_pos h8]
    clear h8
    go_enter Tryz.func76, Tryz.ntmps76
    go_wp2_with fail
    go_ret
    exact ⟨ret_int H0.out.symm, rfl⟩
  · have h8z : ¬ (16 : Int) < (p.length : Int) := by omega
    have HR2 : Hid (r = if p.all namedE = false then 2 else if p.all rightE = false then 1 else if p.all shortE = false then 5 else 0) := by show _ = _; rw [← HR.out]; unfold mayE; rw [if_neg h8]
    clear h8
    go_enter Tryz.func76, Tryz.ntmps76
    go_wp2_with fail
    go_loopg [3, 4, 5, 6] p.length (fun g v3 v4 v5 vi wr => ∃ i : Nat, vi = .int .i64 i ∧ i ≤ p.length ∧ p.length - i ≤ g ∧ v3 = .bool ((p.take i).all namedE) ∧ v4 = .bool ((p.take i).all rightE) ∧ v5 = .bool ((p.take i).all shortE) ∧ w = wr)
    case atStart => exact ⟨0, rfl, by omega, by omega, by simp, by simp, by simp, rfl⟩
    case round =>
    obtain ⟨i, rfl, hi, hgk, rfl, rfl, rfl, rfl⟩ := hrel
    by_cases hlt : i < p.length
    · have hltz : (i : Int) < (p.length : Int) := by omega
      have hiz : (0 : Int) ≤ (i : Int) := by omega
      obtain ⟨b, off, rfl, hat⟩ : ∃ b off, q = some ⟨b, off, none⟩ ∧ KE.At w b off p := by
        rcases HD.out with h | h
        · subst h; simp at hlt
        · exact h
      obtain ⟨c0, c1, c2⟩ := ke_cells hat i hlt
      have hfx := HF.out _ (List.getElem_mem hlt)
      have HN := hid (all_snocE (f := namedE) hlt)
      have HG := hid (all_snocE (f := rightE) hlt)
      have HS := hid (all_snocE (f := shortE) hlt)
      obtain ⟨x, hx⟩ : ∃ x, p[i] = x := ⟨_, rfl⟩
      rw [hx] at c0 c1 c2 hfx HN HG HS
      obtain ⟨xo, xf, xt⟩ := x
      simp only at c0 c1 c2
      obtain ⟨B1, hB1⟩ : ∃ B, (p.take i).all namedE = B := ⟨_, rfl⟩
      obtain ⟨B2, hB2⟩ : ∃ B, (p.take i).all rightE = B := ⟨_, rfl⟩
      obtain ⟨B3, hB3⟩ : ∃ B, (p.take i).all shortE = B := ⟨_, rfl⟩
      rw [hB1] at HN ⊢
      rw [hB2] at HG ⊢
      rw [hB3] at HS ⊢
      obtain ⟨hs1, hs2, hs3, hs4⟩ := hfx
      simp only at hs1 hs2 hs3 hs4
      have HFC : Hid (∀ W, Calls Tryz.prog 118 #[.string xf] W fun e w' => e = .returned (.bool (fieldB xf.data.toList)) ∧ w' = W) := fun W => rfield_any xf W hs1
      unfold maxLen at hs2
      clear hat hx hB1 hB2 hB3 hs1
      go_upto_region 7 with fail
      go_cut [3] from 10 to 67 (fun v wx => w = wx ∧ v = .bool (B1 && fieldB xf.data.toList))
      case first =>
        cases B1 with
        | false =>
          go_wp2_with fail
          go_meet
          case rel => exact ⟨rfl, rfl⟩
        | true =>
          go_wp2_with (first | (go_at_call 118; refine (HFC.out _).mono ?_; rintro e w1 ⟨rfl, rfl⟩))
          go_meet
          case rel => exact ⟨rfl, rfl⟩
      case rest =>
      obtain ⟨rfl, rfl⟩ := hcut
      go_upto_region 8 with fail
      go_cut [4] from 10 to 67 (fun v wx => w = wx ∧ v = .bool (B2 && rightE (xo, xf, xt)))
      case first =>
        have HRM : Hid (rightE (xo, xf, xt) = (decide (1 ≤ xo) && decide (xo ≤ 5) && (decide (xo ≠ 4) || decide (xt.size = 0)))) := rfl
        cases B2 with
        | false =>
          go_wp2_with fail
          go_meet
          case rel => exact ⟨rfl, rfl⟩
        | true =>
          by_cases g1 : 1 ≤ xo
          · have d1 : decide (1 ≤ xo) = true := decide_eq_true g1
            by_cases g2 : xo ≤ 5
            · have d2 : decide (xo ≤ 5) = true := decide_eq_true g2
              by_cases g3 : xo = 4
              · have d3 : (xo != 4) = false := by simp [g3]
                by_cases g4 : xt.size = 0
                · have e4 := sempty_of g4
                  have HV : Hid (rightE (xo, xf, xt) = true) := by show _ = _; rw [HRM.out, d1, d2, decide_eq_true g4]; simp
                  clear g4 g3
                  go_wp2_with fail
                  go_meet
                  case rel => exact ⟨rfl, by rw [HV.out]; rfl⟩
                · have e4 := sfull_of g4
                  have HV : Hid (rightE (xo, xf, xt) = false) := by show _ = _; rw [HRM.out, d1, d2, decide_eq_false g4, decide_eq_false (by simp [g3])]; rfl
                  clear g4 g3
                  go_wp2_with fail
                  go_meet
                  case rel => exact ⟨rfl, by rw [HV.out]; rfl⟩
              · have d3 : (xo != 4) = true := by simp [g3]
                have HV : Hid (rightE (xo, xf, xt) = true) := by show _ = _; rw [HRM.out, d1, d2, decide_eq_true (by simpa using g3)]; rfl
                clear g3
                go_wp2_with fail
                go_meet
                case rel => exact ⟨rfl, by rw [HV.out]; rfl⟩
            · have d2 : decide (xo ≤ 5) = false := decide_eq_false g2
              have HV : Hid (rightE (xo, xf, xt) = false) := by show _ = _; rw [HRM.out, d1, d2]; rfl
              go_wp2_with fail
              go_meet
              case rel => exact ⟨rfl, by rw [HV.out]; rfl⟩
          · have d1 : decide (1 ≤ xo) = false := decide_eq_false g1
            have HV : Hid (rightE (xo, xf, xt) = false) := by show _ = _; rw [HRM.out, d1]; rfl
            go_wp2_with fail
            go_meet
            case rel => exact ⟨rfl, by rw [HV.out]; rfl⟩
      case rest =>
      obtain ⟨rfl, rfl⟩ := hcut
      have HSM : Hid (shortE (xo, xf, xt) = decide (xt.size ≤ 128)) := rfl
      cases B3 with
      | false =>
        go_wp2_with fail
        go_roundg (p.length - (i + 1))
        case measure => omega
        case rel => exact ⟨i + 1, by go_num, by omega, by omega, by rw [HN.out]; rfl, by rw [HG.out], by rw [HS.out]; rfl, rfl⟩
      | true =>
        by_cases g1 : xt.size ≤ 128
        · have g1z : (xt.size : Int) ≤ 128 := by omega
          have HV : Hid (shortE (xo, xf, xt) = true) := by show _ = _; rw [HSM.out]; exact decide_eq_true g1
          go_wp2_with fail
          go_roundg (p.length - (i + 1))
          case measure => omega
          case rel => exact ⟨i + 1, by go_num, by omega, by omega, by rw [HN.out]; rfl, by rw [HG.out], by rw [HS.out, HV.out]; rfl, rfl⟩
        · have g1z : ¬ (xt.size : Int) ≤ 128 := by omega
          have HV : Hid (shortE (xo, xf, xt) = false) := by show _ = _; rw [HSM.out]; exact decide_eq_false g1
          go_wp2_with fail
          go_roundg (p.length - (i + 1))
          case measure => omega
          case rel => exact ⟨i + 1, by go_num, by omega, by omega, by rw [HN.out]; rfl, by rw [HG.out], by rw [HS.out, HV.out]; rfl, rfl⟩
    · have hltz : ¬ (i : Int) < (p.length : Int) := by omega
      rw [List.take_of_length_le (by omega)]
      cases h1 : p.all namedE with
      | false =>
        have H0 : Hid (r = 2) := by show _ = _; rw [HR2.out, h1]; rfl
        clear h1
        go_wp2_with fail
        go_ret
        exact ⟨ret_int H0.out.symm, rfl⟩
      | true =>
        cases h2 : p.all rightE with
        | false =>
          have H0 : Hid (r = 1) := by show _ = _; rw [HR2.out, h1, h2]; rfl
          clear h1 h2
          go_wp2_with fail
          go_ret
          exact ⟨ret_int H0.out.symm, rfl⟩
        | true =>
          cases h3 : p.all shortE with
          | false =>
            have H0 : Hid (r = 5) := by show _ = _; rw [HR2.out, h1, h2, h3]; rfl
            clear h1 h2 h3
            go_wp2_with fail
            go_ret
            exact ⟨ret_int H0.out.symm, rfl⟩
          | true =>
            have H0 : Hid (r = 0) := by show _ = _; rw [HR2.out, h1, h2, h3]; rfl
            clear h1 h2 h3
            go_wp2_with fail
            go_ret
            exact ⟨ret_int H0.out.symm, rfl⟩
theorem Tryz.infoEd : (Tryz.prog.info? 49).map (fun i => (i.zero, i.size, i.bytes)) = some (some (.agg #[.int .i64 0, .string ⟨#[]⟩, .string ⟨#[]⟩]), 3, 40) := by kernel_rfl
theorem neq_edit (a b : Ed) (w : World) : (binOp .neq 49 (.agg #[.int .i64 a.1, .string a.2.1, .string a.2.2]) (.agg #[.int .i64 b.1, .string b.2.1, .string b.2.2])).run Tryz.prog w = .ok (.bool (!decide (a = b))) w := by
  obtain ⟨a1, a2, a3⟩ := a
  obtain ⟨b1, b2, b3⟩ := b
  have hS : Tryz.prog.underlying 49 = some (.struct (Tryz.prog.fieldsOf 49)) := by kernel_rfl
  have hp : Tryz.prog.stoodInHeld 49 = false := by kernel_rfl
  have u9 := Tryz.underlying9
  have a9 := Tryz.isAgg9
  have z9 := Tryz.sizeOf9
  have u3 := Tryz.underlying3
  have a3' := Tryz.isAgg3
  have z3 := Tryz.sizeOf3
  rw [run_neq_struct, show (10000 : Nat) = 9999 + 1 from rfl, run_equalIn_agg w 9999 49 _ _ hS hp]
  simp only [Program.fieldsOf, Tryz.underlying49]
  go_simp
  by_cases h1 : a1 = b1
  · subst h1
    by_cases h2 : a2 = b2
    · subst h2
      by_cases h3 : a3 = b3
      · subst h3; simp
      · have e3 := beq_eq_false_iff_ne.1 (seq_false h3)
        simp [h3, e3]
    · have e2 := beq_eq_false_iff_ne.1 (seq_false h2)
      simp [h2, e2]
  · simp [h1]
set_option maxHeartbeats 2000000 in
set_option maxRecDepth 100000 in
theorem rsameE_any (v u : Value) (p q : List Ed) (w : World) (hv : KE.Is w v p) (hu : KE.Is w u q) (hl1 : p.length ≤ maxLen) :
    Calls Tryz.prog 30 #[v, u] w fun e w' => e = .returned (.bool (decide (p = q))) ∧ ∃ n, w' = w.drewN n := by
  unfold maxLen at hl1
  obtain ⟨a1, k1, rfl, hd1⟩ := hv
  obtain ⟨a2, k2, rfl, hd2⟩ := hu
  obtain ⟨r, hr⟩ : ∃ r, decide (p = q) = r := ⟨_, rfl⟩
  rw [hr]
  have HR := hid hr
  have HD1 := hid hd1
  have HD2 := hid hd2
  clear hr hd1 hd2
  by_cases hl : p.length = q.length
  · have hb : ((p.length : Int) != (q.length : Int)) = false := by simp [hl]
    have HL := hid hl
    clear hl
    go_enter Tryz.func30, Tryz.ntmps30
    go_wp2_with fail
    go_loopg [5] p.length (fun g vi wr => ∃ i m : Nat, vi = .int .i64 i ∧ i ≤ p.length ∧ p.length - i ≤ g ∧ wr = w.drewN m ∧ Hid (∀ j, j < i → p[j]? = q[j]?))
    case atStart => exact ⟨0, 0, rfl, by omega, by omega, rfl, fun j h => by omega⟩
    case round =>
      obtain ⟨i, m, rfl, hi, hg, rfl, HJ⟩ := hrel
      by_cases hlt : i < p.length
      · have hlt2 : i < q.length := by rw [← HL.out]; exact hlt
        have i1 : (0 : Int) ≤ ↑i := by omega
        have i2 : (↑i : Int) < ↑p.length := by omega
        have i3 : (↑i : Int) < ↑q.length := by omega
        rcases HD1.out with hn | ⟨b1, o1, rfl, k1⟩
        · rw [hn] at hlt; simp at hlt
        rcases HD2.out with hn | ⟨b2, o2, rfl, k2⟩
        · rw [hn] at hlt2; simp at hlt2
        obtain ⟨x0, x1, x2⟩ := ke_cells k1 i hlt
        obtain ⟨y0, y1, y2⟩ := ke_cells k2 i hlt2
        have hne := fun W => neq_edit p[i] q[i] W
        have G1 := hid (List.getElem?_eq_getElem hlt)
        have G2 := hid (List.getElem?_eq_getElem hlt2)
        obtain ⟨x, hx⟩ : ∃ x, p[i] = x := ⟨_, rfl⟩
        obtain ⟨y, hy⟩ : ∃ y, q[i] = y := ⟨_, rfl⟩
        rw [hx] at x0 x1 x2 hne G1
        rw [hy] at y0 y1 y2 hne G2
        clear k1 k2 hx hy
        by_cases hst : x = y
        · have hd := decide_eq_true hst
          rw [hd] at hne
          have HS := hid hst
          clear hst hd
          go_wp2_with fail
          go_quiet (fail)
          go_wp2_with fail
          go_roundg (p.length - (i + 1))
          case measure => omega
          refine ⟨i + 1, _, by go_num, by omega, by omega, rfl, fun j hj => ?_⟩
          by_cases e : j = i
          · subst e; rw [G1.out, G2.out, HS.out]
          · exact HJ.out j (by omega)
        · have hd := decide_eq_false hst
          rw [hd] at hne
          have H0 : Hid (r = false) := HR.out.symm.trans (decide_eq_false fun e => hst (by
            have := G1.out
            rw [e, G2.out] at this
            exact (Option.some.inj this).symm))
          clear hst hd
          go_wp2_with fail
          go_quiet (fail)
          go_wp2_with fail
          go_ret
          exact ⟨ret_bool H0.out.symm, _, by rw [World.drewN_drewN]⟩
      · have hltz : ¬ (i : Int) < (p.length : Int) := by omega
        have H0 : Hid (r = true) := HR.out.symm.trans (decide_eq_true (List.ext_getElem? fun j => by
          by_cases hj : j < p.length
          · exact HJ.out j (by omega)
          · rw [List.getElem?_eq_none (by omega), List.getElem?_eq_none (by have := HL.out; omega)]))
        go_wp2_with fail
        go_ret
        exact ⟨ret_bool H0.out.symm, _, rfl⟩
  · have hb : ((p.length : Int) != (q.length : Int)) = true := by simp; omega
    have H0 : Hid (r = false) := HR.out.symm.trans (decide_eq_false fun e => hl (by rw [e]))
    clear hl
    go_enter Tryz.func30, Tryz.ntmps30
    go_wp2_with fail
    go_ret
    exact ⟨ret_bool H0.out.symm, 0, rfl⟩
def signS (k : Int) : ByteArray := if k = 1 then ⟨#[58, 61]⟩ else if k = 2 then ⟨#[43, 61]⟩ else if k = 3 then ⟨#[45, 61]⟩ else if k = 4 then ⟨#[126]⟩ else ⟨#[61, 61]⟩
def kindN (c : Int) : Int := if c = 58 then 1 else if c = 43 then 2 else if c = 45 then 3 else if c = 126 then 4 else if c = 61 then 5 else 0
theorem kindN_range (c : Int) : 0 ≤ kindN c ∧ kindN c ≤ 5 := by
  unfold kindN
  repeat' split
  all_goals omega
end Go.Proofs.YtpdccbeeoapplaaGreatDoor

namespace Go.Proofs.YtpdccbeeoapplaaGreatDoor
open Go.RowKit Go.Lib
def wordE (x : Ed) : ByteArray := x.2.1 ++ signS x.1 ++ ⟨(writeL x.2.2.data.toList).toArray⟩
def lineE (l : List Ed) : ByteArray := lineB (l.map wordE)
theorem wordE_data (x : Ed) : (wordE x).data.toList = x.2.1.data.toList ++ ((signS x.1).data.toList ++ writeL x.2.2.data.toList) := by
  unfold wordE
  simp only [data_append]
  simp
theorem sign_size (k : Int) : (signS k).size ≤ 2 ∧ 1 ≤ (signS k).size := by
  unfold signS
  repeat' split
  all_goals exact ⟨by decide, by decide⟩
theorem wordE_len {x : Ed} (h1 : namedE x = true) (h2 : shortE x = true) : (wordE x).size ≤ 418 := by
  have h3 : x.2.1.size ≤ 32 := by simpa using fieldB_len h1
  have h4 := writeL_len x.2.2.data.toList
  have h5 : x.2.2.data.toList.length = x.2.2.size := by simp
  have h6 := of_decide_eq_true h2
  have h7 := sign_size x.1
  have h8 : (⟨(writeL x.2.2.data.toList).toArray⟩ : ByteArray).size = (writeL x.2.2.data.toList).length := by show (writeL x.2.2.data.toList).toArray.size = _; simp
  unfold wordE
  rw [ByteArray.size_append, ByteArray.size_append, h8]
  omega
theorem lineE_size {ws : List ByteArray} (hn : ws.length ≤ 16) (hs : ∀ x ∈ ws, x.size ≤ 418) : (lineB ws).size ≤ 6704 := by
  have e : (lineB ws).size = (Lib.join (ws.map (·.data.toList)) [32]).length := by rw [← lineB_data]; simp
  have h1 := join_size 418 (ws.map (·.data.toList)) (fun w hw => by
    obtain ⟨x, hx, rfl⟩ := List.mem_map.1 hw
    simpa using hs x hx)
  rw [List.length_map] at h1
  have h3 : ws.length * (418 + 1) ≤ 16 * (418 + 1) := Nat.mul_le_mul_right _ hn
  omega
theorem wrap_i64E (n : Int) (h1 : -9223372036854775808 ≤ n) (h2 : n ≤ 9223372036854775807) : IntKind.i64.wrap n = n := by
  simp [IntKind.wrap, IntKind.signed, IntKind.bits]; omega
def isK (c : UInt8) : Bool := kindN (c.toNat : Int) != 0
def editO (l : List UInt8) : Option Ed :=
  match l.dropWhile (fun c => !isK c) with
  | [] => none
  | c :: r =>
    if kindN (c.toNat : Int) = 4 then (if r = [] then some (4, ⟨(l.takeWhile (fun c => !isK c)).toArray⟩, ⟨#[]⟩) else none)
    else match r with
      | [] => none
      | d :: r2 => if d = 61 then (match readL r2 with
        | none => none
        | some t => some (kindN (c.toNat : Int), ⟨(l.takeWhile (fun c => !isK c)).toArray⟩, ⟨t.toArray⟩)) else none
def editsW : List (List UInt8) → Option (List Ed)
  | [] => some []
  | l :: ls => match editO l with
    | none => none
    | some x => (editsW ls).map (x :: ·)
theorem editsW_append (a b : List (List UInt8)) : editsW (a ++ b) = (editsW a).bind fun xs => (editsW b).map (xs ++ ·) := by
  induction a with
  | nil => simp [editsW]
  | cons l a ih =>
    simp only [List.cons_append, editsW, ih]
    cases editO l with
    | none => rfl
    | some x =>
      cases editsW a with
      | none => rfl
      | some xs => cases editsW b <;> rfl
theorem editsW_no {a b : List (List UInt8)} {l : List UInt8} (h : editO l = none) : editsW (a ++ l :: b) = none := by
  rw [editsW_append]
  cases editsW a with
  | none => rfl
  | some x => simp [editsW, h]
theorem editsW_snoc {a : List (List UInt8)} {l : List UInt8} {xs : List Ed} {x : Ed} (ha : editsW a = some xs) (h : editO l = some x) : editsW (a ++ [l]) = some (xs ++ [x]) := by
  rw [editsW_append, ha]
  simp [editsW, h]
theorem k_split {l : List UInt8} {k : Nat} (hk : k < l.length) (h : ∀ d ∈ l.take k, isK d = false) (h2 : isK l[k] = true) :
    l.takeWhile (fun c => !isK c) = l.take k ∧ l.dropWhile (fun c => !isK c) = l[k] :: l.drop (k + 1) := by
  have e : l = l.take k ++ l[k] :: l.drop (k + 1) := by
    conv => lhs; rw [← List.take_append_drop k l, List.drop_eq_getElem_cons hk]
  have hp : ∀ d ∈ l.take k, (!isK d) = true := fun d hd => by rw [h d hd]; rfl
  constructor
  · conv => lhs; rw [e]
    rw [List.takeWhile_append_of_pos hp, List.takeWhile_cons, h2]
    simp
  · conv => lhs; rw [e]
    rw [List.dropWhile_append_of_pos hp, List.dropWhile_cons, h2]
    simp
theorem k_none {l : List UInt8} (h : ∀ d ∈ l, isK d = false) : editO l = none := by
  have : l.dropWhile (fun c => !isK c) = [] := by
    induction l with
    | nil => rfl
    | cons c l ih =>
      rw [List.dropWhile_cons, h c (by simp)]
      simpa using ih fun d hd => h d (by simp [hd])
  unfold editO
  rw [this]
theorem kind_sign {c : UInt8} (h : isK c = true) : c = 58 ∨ c = 43 ∨ c = 45 ∨ c = 126 ∨ c = 61 := by
  unfold isK at h
  rw [bne_iff_ne] at h
  unfold kindN at h
  have key : ∀ k : UInt8, (c.toNat : Int) = (k.toNat : Int) → c = k := fun k e => UInt8.toNat_inj.1 (by omega)
  by_cases h1 : (c.toNat : Int) = 58
  · exact Or.inl (key 58 h1)
  by_cases h2 : (c.toNat : Int) = 43
  · exact Or.inr (Or.inl (key 43 h2))
  by_cases h3 : (c.toNat : Int) = 45
  · exact Or.inr (Or.inr (Or.inl (key 45 h3)))
  by_cases h4 : (c.toNat : Int) = 126
  · exact Or.inr (Or.inr (Or.inr (Or.inl (key 126 h4))))
  by_cases h5 : (c.toNat : Int) = 61
  · exact Or.inr (Or.inr (Or.inr (Or.inr (key 61 h5))))
  rw [if_neg h1, if_neg h2, if_neg h3, if_neg h4, if_neg h5] at h
  exact absurd rfl h
theorem field_nokind {l : List UInt8} (h : fieldB l = true) : ∀ c ∈ l, isK c = false := by
  intro c hc
  unfold fieldB spell at h
  cases l with
  | nil => simp at hc
  | cons x r =>
    simp only [Bool.and_eq_true, List.all_eq_true] at h
    have key : lodB (c.toNat : Int) = true ∨ smallB (c.toNat : Int) = true := by
      rcases List.mem_cons.1 hc with e | hc
      · exact Or.inr (by rw [e]; exact h.1.2)
      · exact Or.inl (h.2 _ hc)
    cases ho : isK c with
    | false => rfl
    | true =>
      rcases kind_sign ho with rfl | rfl | rfl | rfl | rfl <;> (rcases key with k | k <;> (revert k; decide))
theorem editO_back {x : Ed} (h1 : namedE x = true) (h2 : rightE x = true) : editO (wordE x).data.toList = some x := by
  obtain ⟨k, n, t⟩ := x
  have hr : (1 ≤ k ∧ k ≤ 5) ∧ (k ≠ 4 ∨ t.size = 0) := by
    unfold rightE at h2
    simp only [Bool.and_eq_true, Bool.or_eq_true, decide_eq_true_eq] at h2
    exact h2
  obtain ⟨⟨hk1, hk5⟩, hk4⟩ := hr
  have hno := field_nokind h1
  simp only at hno
  have key : ∀ (c : UInt8) (r : List UInt8), isK c = true → (n.data.toList ++ c :: r).takeWhile (fun c => !isK c) = n.data.toList ∧ (n.data.toList ++ c :: r).dropWhile (fun c => !isK c) = c :: r := fun c r hc => by
    have hkl : n.data.toList.length < (n.data.toList ++ c :: r).length := by simp
    have hg : (n.data.toList ++ c :: r)[n.data.toList.length] = c := by simp
    obtain ⟨e1, e2⟩ := k_split hkl (by rw [List.take_left' rfl]; exact hno) (by rw [hg]; exact hc)
    rw [List.take_left' rfl] at e1
    rw [hg, show n.data.toList ++ c :: r = (n.data.toList ++ [c]) ++ r by simp, List.drop_left' (by simp)] at e2
    refine ⟨e1, ?_⟩
    rw [show n.data.toList ++ c :: r = (n.data.toList ++ [c]) ++ r by simp]
    exact e2
  have hcs : k = 1 ∨ k = 2 ∨ k = 3 ∨ k = 4 ∨ k = 5 := by omega
  have hback : (⟨n.data.toList.toArray⟩ : ByteArray) = n := ba_back n
  have htb : (⟨t.data.toList.toArray⟩ : ByteArray) = t := ba_back t
  rw [wordE_data]
  simp only
  rcases hcs with rfl | rfl | rfl | rfl | rfl
  · obtain ⟨e1, e2⟩ := key 58 (61 :: writeL t.data.toList) rfl
    rw [show (signS 1).data.toList ++ writeL t.data.toList = 58 :: 61 :: writeL t.data.toList from rfl]
    unfold editO
    rw [e1, e2]
    simp only
    rw [if_neg (by decide), if_pos trivial, read_write]
    simp only
    rw [hback, htb]
    rfl
  · obtain ⟨e1, e2⟩ := key 43 (61 :: writeL t.data.toList) rfl
    rw [show (signS 2).data.toList ++ writeL t.data.toList = 43 :: 61 :: writeL t.data.toList from rfl]
    unfold editO
    rw [e1, e2]
    simp only
    rw [if_neg (by decide), if_pos trivial, read_write]
    simp only
    rw [hback, htb]
    rfl
  · obtain ⟨e1, e2⟩ := key 45 (61 :: writeL t.data.toList) rfl
    rw [show (signS 3).data.toList ++ writeL t.data.toList = 45 :: 61 :: writeL t.data.toList from rfl]
    unfold editO
    rw [e1, e2]
    simp only
    rw [if_neg (by decide), if_pos trivial, read_write]
    simp only
    rw [hback, htb]
    rfl
  · have h0 : t.size = 0 := by
      rcases hk4 with h | h
      · exact absurd rfl h
      · exact h
    have ht : t = ⟨#[]⟩ := ba_eq (List.length_eq_zero_iff.1 (by simpa using h0))
    subst ht
    obtain ⟨e1, e2⟩ := key 126 [] rfl
    rw [show (signS 4).data.toList ++ writeL (⟨#[]⟩ : ByteArray).data.toList = [126] from rfl]
    unfold editO
    rw [e1, e2]
    simp only
    rw [if_pos (by decide), if_pos trivial, hback]
  · obtain ⟨e1, e2⟩ := key 61 (61 :: writeL t.data.toList) rfl
    rw [show (signS 5).data.toList ++ writeL t.data.toList = 61 :: 61 :: writeL t.data.toList from rfl]
    unfold editO
    rw [e1, e2]
    simp only
    rw [if_neg (by decide), if_pos trivial, read_write]
    simp only
    rw [hback, htb]
    rfl
theorem edits_back (p : List Ed) (h : ∀ x ∈ p, namedE x = true ∧ rightE x = true) : editsW ((p.map wordE).map (·.data.toList)) = some p := by
  induction p with
  | nil => rfl
  | cons x p ih =>
    have hx := h x (by simp)
    simp only [List.map_cons, editsW]
    rw [editO_back hx.1 hx.2, ih fun y hy => h y (by simp [hy])]
    rfl
theorem sign_noblank (k : Int) : (32 : UInt8) ∉ (signS k).data.toList := by
  unfold signS
  repeat' split
  all_goals decide
theorem wordE_noblank {x : Ed} (h1 : namedE x = true) : (32 : UInt8) ∉ (wordE x).data.toList := by
  rw [wordE_data, List.mem_append, List.mem_append]
  rintro (h | h | h)
  · exact noblank_mem (field_noblank h1) h
  · exact sign_noblank _ h
  · exact noblank_mem (write_noblank _) h
def prE (l : List Ed) : ByteArray := if mayE l = 0 then lineE l else ⟨#[]⟩
def codeL (o : Option (List Ed)) : Int := match o with | none => 4 | some p => mayE p
def ansL (o : Option (List Ed)) : List Ed := match o with | none => [] | some p => if mayE p = 0 then p else []
end Go.Proofs.YtpdccbeeoapplaaGreatDoor

namespace Go.Proofs.YtpdccbeeoapplaaGreatDoor
open Go.RowKit
set_option maxHeartbeats 1000000 in
theorem id_any (n : Int) (w : World) : Calls Tryz.prog 161 #[.int .u8 n] w fun e w' => e = .returned (.bool (idB n)) ∧ w' = w := by
  go_enter Tryz.func161, Tryz.ntmps161
  go_wp2
  all_goals go_ret
  all_goals refine ⟨ret_bool ?_, rfl⟩
  all_goals (rw [Bool.eq_iff_iff]; simp_all [idB, lodB, digB, letB, bigB, smallB]; try omega)
set_option maxHeartbeats 1000000 in
theorem spelled_type (s : ByteArray) (w : World) (hs : s.size ≤ maxLen) :
    Calls Tryz.prog 123 #[.string s, .func (.func 126) #[] #[], .func (.func 127) #[] #[]] w fun e w' => e = .returned (.bool (typeB s.data.toList)) ∧ w' = w := by
  unfold maxLen at hs
  by_cases he : s.size = 0
  · have hb := spell_empty bigB letB s he
    have hlt : (s.size : Int) < 1 := by omega
    have HB : Hid (spell bigB letB s.data.toList = false) := hb
    clear he hb
    go_enter Tryz.func123, Tryz.ntmps123
    go_wp2_with fail
    go_ret
    exact ⟨ret_bool HB.out.symm, rfl⟩
  have hpos : 0 < s.size := by omega
  have hnl : ¬ (s.size : Int) < 1 := by omega
  by_cases hl : 32 < s.size
  · have hb := spell_long bigB letB s hl
    have HB : Hid (spell bigB letB s.data.toList = false) := hb
    have hgt : (32 : Int) < (s.size : Int) := by omega
    clear he hb
    go_enter Tryz.func123, Tryz.ntmps123
    go_wp2_with fail
    go_ret
    exact ⟨ret_bool HB.out.symm, rfl⟩
  have hle : ¬ (32 : Int) < (s.size : Int) := by omega
  clear he
  cases hc : bigB (s[0].toNat : Int) with
  | false =>
    have HB : Hid (spell bigB letB s.data.toList = false) := spell_first bigB letB s hpos hc
    go_enter Tryz.func123, Tryz.ntmps123
    go_wp2_with (go_at_call 126; refine (big_any _ _).mono ?_; rintro e w' ⟨rfl, rfl⟩)
    go_ret
    exact ⟨ret_bool HB.out.symm, rfl⟩
  | true =>
    have HT : Hid ((∀ k, 1 ≤ k → (hk : k < s.size) → letB (s[k].toNat : Int) = true) → spell bigB letB s.data.toList = true) := spell_true bigB letB s hpos (by omega) hc
    have HA : Hid (∀ k, 1 ≤ k → (hk : k < s.size) → letB (s[k].toNat : Int) = false → spell bigB letB s.data.toList = false) := fun k h1 hk => spell_at bigB letB s k h1 hk
    go_enter Tryz.func123, Tryz.ntmps123
    go_wp2_with (go_at_call 126; refine (big_any _ _).mono ?_; rintro e w' ⟨rfl, rfl⟩)
    go_loop [7] (fun i => ∃ k : Nat, 1 ≤ k ∧ k ≤ s.size ∧ i = .int .i64 k ∧ (∀ j, 1 ≤ j → j < k → (hj : j < s.size) → letB (s[j].toNat : Int) = true)) (fun i => s.size - (intOf i).toNat)
    case atStart => exact ⟨1, by omega, by omega, rfl, fun j h1 h2 => by omega⟩
    case round =>
      obtain ⟨k, hk1, hk, rfl, hall⟩ := hrel
      have HL : Hid (∀ j, 1 ≤ j → j < k → (hj : j < s.size) → letB (s[j].toNat : Int) = true) := hall
      clear hall
      by_cases hlt : k < s.size
      · cases hd : letB (s[k].toNat : Int) with
        | false =>
          go_wp2_with (go_at_call 127; refine (letter_any _ _).mono ?_; rintro e w' ⟨rfl, rfl⟩)
          go_ret
          exact ⟨ret_bool (HA.out k hk1 hlt hd).symm, rfl⟩
        | true =>
          go_wp2_with (go_at_call 127; refine (letter_any _ _).mono ?_; rintro e w' ⟨rfl, rfl⟩)
          go_round
          case rel =>
            refine ⟨k + 1, by omega, by omega, by go_num, fun j h1 h2 hj => ?_⟩
            by_cases hjk : j = k
            · subst hjk; exact hd
            · exact HL.out j h1 (by omega) hj
          case measure => simp [intOf]; omega
      · go_wp2_with fail
        go_ret
        exact ⟨ret_bool (HT.out fun j h1 hj => HL.out j h1 (by omega) hj).symm, rfl⟩
set_option maxHeartbeats 1000000 in
theorem type_any (s : ByteArray) (w : World) (hs : s.size ≤ maxLen) :
    Calls Tryz.prog 82 #[.string s] w fun e w' => e = .returned (.bool (typeB s.data.toList)) ∧ w' = w := by
  go_enter Tryz.func82, Tryz.ntmps82
  go_wp2_with (go_at_call 123; refine (spelled_type _ _ hs).mono ?_; rintro e w' ⟨rfl, rfl⟩)
  go_ret
  exact ⟨rfl, rfl⟩
set_option maxHeartbeats 1000000 in
theorem spelled_iden (s : ByteArray) (w : World) (hs : s.size ≤ maxLen) :
    Calls Tryz.prog 123 #[.string s, .func (.func 161) #[] #[], .func (.func 161) #[] #[]] w fun e w' => e = .returned (.bool (idenB s.data.toList)) ∧ w' = w := by
  unfold maxLen at hs
  by_cases he : s.size = 0
  · have hb := spell_empty idB idB s he
    have hlt : (s.size : Int) < 1 := by omega
    have HB : Hid (spell idB idB s.data.toList = false) := hb
    clear he hb
    go_enter Tryz.func123, Tryz.ntmps123
    go_wp2_with fail
    go_ret
    exact ⟨ret_bool HB.out.symm, rfl⟩
  have hpos : 0 < s.size := by omega
  have hnl : ¬ (s.size : Int) < 1 := by omega
  by_cases hl : 32 < s.size
  · have hb := spell_long idB idB s hl
    have HB : Hid (spell idB idB s.data.toList = false) := hb
    have hgt : (32 : Int) < (s.size : Int) := by omega
    clear he hb
    go_enter Tryz.func123, Tryz.ntmps123
    go_wp2_with fail
    go_ret
    exact ⟨ret_bool HB.out.symm, rfl⟩
  have hle : ¬ (32 : Int) < (s.size : Int) := by omega
  clear he
  cases hc : idB (s[0].toNat : Int) with
  | false =>
    have HB : Hid (spell idB idB s.data.toList = false) := spell_first idB idB s hpos hc
    go_enter Tryz.func123, Tryz.ntmps123
    go_wp2_with (go_at_call 161; refine (id_any _ _).mono ?_; rintro e w' ⟨rfl, rfl⟩)
    go_ret
    exact ⟨ret_bool HB.out.symm, rfl⟩
  | true =>
    have HT : Hid ((∀ k, 1 ≤ k → (hk : k < s.size) → idB (s[k].toNat : Int) = true) → spell idB idB s.data.toList = true) := spell_true idB idB s hpos (by omega) hc
    have HA : Hid (∀ k, 1 ≤ k → (hk : k < s.size) → idB (s[k].toNat : Int) = false → spell idB idB s.data.toList = false) := fun k h1 hk => spell_at idB idB s k h1 hk
    go_enter Tryz.func123, Tryz.ntmps123
    go_wp2_with (go_at_call 161; refine (id_any _ _).mono ?_; rintro e w' ⟨rfl, rfl⟩)
    go_loop [7] (fun i => ∃ k : Nat, 1 ≤ k ∧ k ≤ s.size ∧ i = .int .i64 k ∧ (∀ j, 1 ≤ j → j < k → (hj : j < s.size) → idB (s[j].toNat : Int) = true)) (fun i => s.size - (intOf i).toNat)
    case atStart => exact ⟨1, by omega, by omega, rfl, fun j h1 h2 => by omega⟩
    case round =>
      obtain ⟨k, hk1, hk, rfl, hall⟩ := hrel
      have HL : Hid (∀ j, 1 ≤ j → j < k → (hj : j < s.size) → idB (s[j].toNat : Int) = true) := hall
      clear hall
      by_cases hlt : k < s.size
      · cases hd : idB (s[k].toNat : Int) with
        | false =>
          go_wp2_with (go_at_call 161; refine (id_any _ _).mono ?_; rintro e w' ⟨rfl, rfl⟩)
          go_ret
          exact ⟨ret_bool (HA.out k hk1 hlt hd).symm, rfl⟩
        | true =>
          go_wp2_with (go_at_call 161; refine (id_any _ _).mono ?_; rintro e w' ⟨rfl, rfl⟩)
          go_round
          case rel =>
            refine ⟨k + 1, by omega, by omega, by go_num, fun j h1 h2 hj => ?_⟩
            by_cases hjk : j = k
            · subst hjk; exact hd
            · exact HL.out j h1 (by omega) hj
          case measure => simp [intOf]; omega
      · go_wp2_with fail
        go_ret
        exact ⟨ret_bool (HT.out fun j h1 hj => HL.out j h1 (by omega) hj).symm, rfl⟩
set_option maxHeartbeats 1000000 in
theorem iden_any (s : ByteArray) (w : World) (hs : s.size ≤ maxLen) :
    Calls Tryz.prog 125 #[.string s] w fun e w' => e = .returned (.bool (idenB s.data.toList)) ∧ w' = w := by
  go_enter Tryz.func125, Tryz.ntmps125
  go_wp2_with (go_at_call 123; refine (spelled_iden _ _ hs).mono ?_; rintro e w' ⟨rfl, rfl⟩)
  go_ret
  exact ⟨rfl, rfl⟩
set_option maxHeartbeats 1000000 in
theorem spelled_temp (s : ByteArray) (w : World) (hs : s.size ≤ maxLen) :
    Calls Tryz.prog 123 #[.string s, .func (.func 124) #[] #[], .func (.func 124) #[] #[]] w fun e w' => e = .returned (.bool (tempB s.data.toList)) ∧ w' = w := by
  unfold maxLen at hs
  by_cases he : s.size = 0
  · have hb := spell_empty lodB lodB s he
    have hlt : (s.size : Int) < 1 := by omega
    have HB : Hid (spell lodB lodB s.data.toList = false) := hb
    clear he hb
    go_enter Tryz.func123, Tryz.ntmps123
    go_wp2_with fail
    go_ret
    exact ⟨ret_bool HB.out.symm, rfl⟩
  have hpos : 0 < s.size := by omega
  have hnl : ¬ (s.size : Int) < 1 := by omega
  by_cases hl : 32 < s.size
  · have hb := spell_long lodB lodB s hl
    have HB : Hid (spell lodB lodB s.data.toList = false) := hb
    have hgt : (32 : Int) < (s.size : Int) := by omega
    clear he hb
    go_enter Tryz.func123, Tryz.ntmps123
    go_wp2_with fail
    go_ret
    exact ⟨ret_bool HB.out.symm, rfl⟩
  have hle : ¬ (32 : Int) < (s.size : Int) := by omega
  clear he
  cases hc : lodB (s[0].toNat : Int) with
  | false =>
    have HB : Hid (spell lodB lodB s.data.toList = false) := spell_first lodB lodB s hpos hc
    go_enter Tryz.func123, Tryz.ntmps123
    go_wp2_with (go_at_call 124; refine (lod_any _ _).mono ?_; rintro e w' ⟨rfl, rfl⟩)
    go_ret
    exact ⟨ret_bool HB.out.symm, rfl⟩
  | true =>
    have HT : Hid ((∀ k, 1 ≤ k → (hk : k < s.size) → lodB (s[k].toNat : Int) = true) → spell lodB lodB s.data.toList = true) := spell_true lodB lodB s hpos (by omega) hc
    have HA : Hid (∀ k, 1 ≤ k → (hk : k < s.size) → lodB (s[k].toNat : Int) = false → spell lodB lodB s.data.toList = false) := fun k h1 hk => spell_at lodB lodB s k h1 hk
    go_enter Tryz.func123, Tryz.ntmps123
    go_wp2_with (go_at_call 124; refine (lod_any _ _).mono ?_; rintro e w' ⟨rfl, rfl⟩)
    go_loop [7] (fun i => ∃ k : Nat, 1 ≤ k ∧ k ≤ s.size ∧ i = .int .i64 k ∧ (∀ j, 1 ≤ j → j < k → (hj : j < s.size) → lodB (s[j].toNat : Int) = true)) (fun i => s.size - (intOf i).toNat)
    case atStart => exact ⟨1, by omega, by omega, rfl, fun j h1 h2 => by omega⟩
    case round =>
      obtain ⟨k, hk1, hk, rfl, hall⟩ := hrel
      have HL : Hid (∀ j, 1 ≤ j → j < k → (hj : j < s.size) → lodB (s[j].toNat : Int) = true) := hall
      clear hall
      by_cases hlt : k < s.size
      · cases hd : lodB (s[k].toNat : Int) with
        | false =>
          go_wp2_with (go_at_call 124; refine (lod_any _ _).mono ?_; rintro e w' ⟨rfl, rfl⟩)
          go_ret
          exact ⟨ret_bool (HA.out k hk1 hlt hd).symm, rfl⟩
        | true =>
          go_wp2_with (go_at_call 124; refine (lod_any _ _).mono ?_; rintro e w' ⟨rfl, rfl⟩)
          go_round
          case rel =>
            refine ⟨k + 1, by omega, by omega, by go_num, fun j h1 h2 hj => ?_⟩
            by_cases hjk : j = k
            · subst hjk; exact hd
            · exact HL.out j h1 (by omega) hj
          case measure => simp [intOf]; omega
      · go_wp2_with fail
        go_ret
        exact ⟨ret_bool (HT.out fun j h1 hj => HL.out j h1 (by omega) hj).symm, rfl⟩
set_option maxHeartbeats 1000000 in
theorem temp_any (s : ByteArray) (w : World) (hs : s.size ≤ maxLen) :
    Calls Tryz.prog 80 #[.string s] w fun e w' => e = .returned (.bool (tempB s.data.toList)) ∧ w' = w := by
  go_enter Tryz.func80, Tryz.ntmps80
  go_wp2_with (go_at_call 123; refine (spelled_temp _ _ hs).mono ?_; rintro e w' ⟨rfl, rfl⟩)
  go_ret
  exact ⟨rfl, rfl⟩
end Go.Proofs.YtpdccbeeoapplaaGreatDoor

namespace Go.Proofs.YtpdccbeeoapplaaGreatDoor
open Go.RowKit
def keyB (a b : ByteArray) : Bool := typeB a.data.toList && idenB b.data.toList
theorem bcell {W w1 : World} (hb : Below W.heap.size W w1) : (∀ b o, b < W.heap.size → w1.cell? ⟨b, o, none⟩ = W.cell? ⟨b, o, none⟩) ∧ (∀ b o, b < W.heap.size → w1.frozen? ⟨b, o, none⟩ = W.frozen? ⟨b, o, none⟩) :=
  ⟨fun b o h => hb.cell (p := ⟨b, o, none⟩) h, fun b o h => hb.frozen (p := ⟨b, o, none⟩) h⟩
set_option maxHeartbeats 400000 in
theorem key_any (a b : ByteArray) (w : World) (ha : a.size ≤ maxLen) (hb : b.size ≤ maxLen) :
    Calls Tryz.prog 81 #[.agg #[.string a, .string b]] w fun e w' => e = .returned (.bool (keyB a b)) ∧ Below w.heap.size w w' := by
  have HK : Hid (keyB a b = (typeB a.data.toList && idenB b.data.toList)) := rfl
  cases ht : typeB a.data.toList
  all_goals
    go_enter Tryz.func81, Tryz.ntmps81
    go_wp2_with (first | (go_at_call 82; refine (type_any _ _ ha).mono ?_; rintro e w' ⟨rfl, rfl⟩) | (go_at_call 125; refine (iden_any _ _ hb).mono ?_; rintro e w' ⟨rfl, rfl⟩))
    go_ret
    exact ⟨ret_bool (by rw [HK.out, ht]; rfl), (Below.refl _ _).alloc (Nat.le_refl _) _⟩
set_option maxHeartbeats 400000 in
theorem nprint_yes (a b : ByteArray) (w : World) (ha : a.size ≤ maxLen) (hb : b.size ≤ maxLen) (ha32 : a.size ≤ 32) (hb32 : b.size ≤ 32) (hk : keyB a b = true) :
    Calls Tryz.prog 64 #[.agg #[.string a, .string b]] w fun e w' => e = .returned (.tuple #[.string (a ++ ⟨#[47]⟩ ++ b), .int .i64 0]) ∧ Below w.heap.size w w' := by
  go_enter Tryz.func64, Tryz.ntmps64
  go_wp2_with (go_at_call 81; refine (key_any _ _ _ ha hb).mono ?_; rintro e w1 ⟨rfl, hq⟩; obtain ⟨hc, hf⟩ := bcell hq)
  go_ret2
  refine ⟨?_, ((Below.refl _ _).alloc (Nat.le_refl _) _).trans (hq.mono (by simp))⟩
  rfl
theorem typeB_len {l : List UInt8} (h : typeB l = true) : l.length ≤ 32 := by
  cases l with
  | nil => simp
  | cons c r => simp [typeB, spell] at h; simp; omega
theorem idenB_len {l : List UInt8} (h : idenB l = true) : l.length ≤ 32 := by
  cases l with
  | nil => simp
  | cons c r => simp [idenB, spell] at h; simp; omega
theorem idenB_empty : idenB [] = false := rfl
theorem keyB_empty (a : ByteArray) : keyB a ⟨#[]⟩ = false := by
  unfold keyB
  rw [show (⟨#[]⟩ : ByteArray).data.toList = [] from rfl, idenB_empty, Bool.and_false]
theorem ext_size (s : ByteArray) (i j : Nat) (h : s.size ≤ maxLen) : (s.extract i j).size ≤ maxLen := by
  have : (s.extract i j).size ≤ s.size := by simp; omega
  omega
set_option maxHeartbeats 400000 in
theorem parse_bare (s : ByteArray) (w : World) (hs : s.size ≤ maxLen) (hix : Lib.indexByte s.data.toList 47 = -1) :
    Calls Tryz.prog 94 #[.string s] w fun e w' => e = .returned (.tuple #[.agg #[.string ⟨#[]⟩, .string ⟨#[]⟩], .int .i64 2]) ∧ Below w.heap.size w w' := by
  have HX : Hid (Lib.indexByte s.data.toList 47 = -1) := hix
  clear hix
  have hk := keyB_empty s
  have h0 : (⟨#[]⟩ : ByteArray).size ≤ maxLen := by decide
  go_enter Tryz.func94, Tryz.ntmps94
  go_wp2_with (first | (go_at_call 138; refine (cut_no _ _ _ HX.out).mono ?_; rintro e w' ⟨rfl, rfl⟩) | (go_at_call 81; refine (key_any _ _ _ hs h0).mono ?_; rintro e w1 ⟨rfl, hq⟩; obtain ⟨hc, hf⟩ := bcell hq))
  have c0 : w1.cell? ⟨w.heap.size, 0, none⟩ = some (.string ⟨#[]⟩) := by rw [hc _ _ (by simp; omega)]; simp [go_sem]
  have c1 : w1.cell? ⟨w.heap.size, 1, none⟩ = some (.string ⟨#[]⟩) := by rw [hc _ _ (by simp; omega)]; simp [go_sem]
  exact bodyPost_ret (v := .tuple #[.agg #[.string ⟨#[]⟩, .string ⟨#[]⟩], .int .i64 2]) (by simp [results, Tryz.results94, go_sem, c0, c1]) rfl
    ⟨rfl, (((((Below.refl _ _).alloc (Nat.le_refl _) _).alloc (by simp) _).trans (hq.mono (by simp; omega))).setCell (by simp) _).setCell (by simp) _⟩
set_option maxHeartbeats 400000 in
theorem parse_no (s : ByteArray) (w : World) (hs : s.size ≤ maxLen) (i : Nat) (hix : Lib.indexByte s.data.toList 47 = (i : Int)) (hi : i < s.size)
    (hk : keyB (s.extract 0 i) (s.extract (i + 1) s.size) = false) :
    Calls Tryz.prog 94 #[.string s] w fun e w' => e = .returned (.tuple #[.agg #[.string ⟨#[]⟩, .string ⟨#[]⟩], .int .i64 2]) ∧ Below w.heap.size w w' := by
  have HX : Hid (Lib.indexByte s.data.toList 47 = (i : Int)) := hix
  have h1 := ext_size s 0 i hs
  have h2 := ext_size s (i + 1) s.size hs
  have HH : Hid (i < s.size ∧ s.size ≤ maxLen ∧ (s.extract 0 i).size ≤ maxLen ∧ (s.extract (i + 1) s.size).size ≤ maxLen) := ⟨hi, hs, h1, h2⟩
  clear hix hi hs h1 h2
  go_enter Tryz.func94, Tryz.ntmps94
  go_wp2_with (first | (go_at_call 138; refine (cut_yes _ _ _ i HX.out HH.out.1 HH.out.2.1).mono ?_; rintro e w' ⟨rfl, n, rfl⟩) | (go_at_call 81; refine (key_any _ _ _ HH.out.2.2.1 HH.out.2.2.2).mono ?_; rintro e w1 ⟨rfl, hq⟩; obtain ⟨hc, hf⟩ := bcell hq))
  have c0 : w1.cell? ⟨w.heap.size, 0, none⟩ = some (.string ⟨#[]⟩) := by rw [hc _ _ (by simp; omega)]; simp [go_sem]
  have c1 : w1.cell? ⟨w.heap.size, 1, none⟩ = some (.string ⟨#[]⟩) := by rw [hc _ _ (by simp; omega)]; simp [go_sem]
  exact bodyPost_ret (v := .tuple #[.agg #[.string ⟨#[]⟩, .string ⟨#[]⟩], .int .i64 2]) (by simp [results, Tryz.results94, go_sem, c0, c1]) rfl
    ⟨rfl, ((((_root_.Go.below_drewN ((Below.refl _ _).alloc (Nat.le_refl _) _) _).alloc (by simp) _).trans (hq.mono (by simp; omega))).setCell (by simp) _).setCell (by simp) _⟩
set_option maxHeartbeats 400000 in
theorem parse_yes (s : ByteArray) (w : World) (hs : s.size ≤ maxLen) (i : Nat) (hix : Lib.indexByte s.data.toList 47 = (i : Int)) (hi : i < s.size)
    (hk : keyB (s.extract 0 i) (s.extract (i + 1) s.size) = true) :
    Calls Tryz.prog 94 #[.string s] w fun e w' => e = .returned (.tuple #[.agg #[.string (s.extract 0 i), .string (s.extract (i + 1) s.size)], .int .i64 0]) ∧ Below w.heap.size w w' := by
  have HX : Hid (Lib.indexByte s.data.toList 47 = (i : Int)) := hix
  have h1 := ext_size s 0 i hs
  have h2 := ext_size s (i + 1) s.size hs
  have HH : Hid (i < s.size ∧ s.size ≤ maxLen ∧ (s.extract 0 i).size ≤ maxLen ∧ (s.extract (i + 1) s.size).size ≤ maxLen) := ⟨hi, hs, h1, h2⟩
  clear hix hi hs h1 h2
  go_enter Tryz.func94, Tryz.ntmps94
  go_wp2_with (first | (go_at_call 138; refine (cut_yes _ _ _ i HX.out HH.out.1 HH.out.2.1).mono ?_; rintro e w' ⟨rfl, n, rfl⟩) | (go_at_call 81; refine (key_any _ _ _ HH.out.2.2.1 HH.out.2.2.2).mono ?_; rintro e w1 ⟨rfl, hq⟩; obtain ⟨hc, hf⟩ := bcell hq))
  have c0 : w1.cell? ⟨w.heap.size, 0, none⟩ = some (.string ⟨#[]⟩) := by rw [hc _ _ (by simp; omega)]; simp [go_sem]
  have c1 : w1.cell? ⟨w.heap.size, 1, none⟩ = some (.string ⟨#[]⟩) := by rw [hc _ _ (by simp; omega)]; simp [go_sem]
  exact bodyPost_ret (v := .tuple #[.agg #[.string (s.extract 0 i), .string (s.extract (i + 1) s.size)], .int .i64 0]) (by simp [results, Tryz.results94, go_sem, c0, c1]) rfl
    ⟨rfl, ((((_root_.Go.below_drewN ((Below.refl _ _).alloc (Nat.le_refl _) _) _).alloc (by simp) _).trans (hq.mono (by simp; omega))).setCell (by simp) _).setCell (by simp) _⟩
end Go.Proofs.YtpdccbeeoapplaaGreatDoor

namespace Go.Proofs.YtpdccbeeoapplaaGreatDoor
open Go.RowKit Go.Lib
structure En where
  kind : Int
  temp : ByteArray
  ka : ByteArray
  kb : ByteArray
  iff : Int
  val : List Fld
  eds : List Ed
  pred : List Tm
  stamp : Int
  num : Int
def nameN : Nat → List UInt8
  | 1 => [99, 114, 101, 97, 116, 101]
  | 2 => [101, 110, 115, 117, 114, 101]
  | 3 => [117, 112, 100, 97, 116, 101]
  | 4 => [112, 97, 116, 99, 104]
  | 5 => [100, 101, 108, 101, 116, 101]
  | 6 => [114, 101, 97, 100]
  | 7 => [110, 117, 109, 98, 101, 114]
  | 8 => [115, 101, 97, 114, 99, 104]
  | 9 => [104, 105, 115, 116, 111, 114, 121]
  | 10 => [115, 105, 110, 99, 101]
  | 11 => [97, 116]
  | 12 => [102, 105, 110, 100]
  | _ => []
def nameK (k : Int) : List UInt8 := nameN k.toNat
def typedK (k : Int) : Bool := decide (k = 8) || decide (k = 10) || decide (k = 12)
def keyEn (e : En) : Bool := if typedK e.kind = true then decide (e.kb = ⟨#[]⟩) && typeB e.ka.data.toList else keyB e.ka e.kb
def mayEn (e : En) : Bool :=
  decide (1 ≤ e.kind ∧ e.kind ≤ 12) && keyEn e &&
  (decide (e.temp = ⟨#[]⟩) || decide (e.kind ≤ 2) && tempB e.temp.data.toList) &&
  decide (e.iff ≠ 0 → 3 ≤ e.kind ∧ e.kind ≤ 5 ∧ 0 ≤ e.iff ∧ e.iff ≤ 999999999) &&
  decide (e.num ≠ 0 → e.kind = 7 ∧ 0 ≤ e.num ∧ e.num ≤ 999999999) &&
  decide (e.stamp ≠ 0 → 9 ≤ e.kind) &&
  decide (e.val ≠ [] → e.kind ≤ 3) && mayB e.val &&
  decide (e.eds ≠ [] ↔ e.kind = 4) && decide (mayE e.eds = 0) &&
  (decide (mayM e.pred = 0) && decide (sortM e.pred = e.pred)) && decide (e.pred ≠ [] → e.kind = 2 ∨ e.kind = 8 ∨ e.kind = 12)
def mayRq (l : List En) : Bool := decide (0 < l.length) && decide (l.length ≤ 16) && l.all mayEn
def bytesL (l : List ByteArray) : List (List UInt8) := l.map (·.data.toList)
def keyWd (e : En) : List UInt8 := e.ka.data.toList ++ (if e.kb = ⟨#[]⟩ then [] else 47 :: e.kb.data.toList)
def tailW (e : En) : List (List UInt8) :=
  if e.kind = 2 then bytesL (wordsL e.val) ++ [63] :: bytesL (e.pred.map wordM)
  else if e.kind = 7 then [decL e.num.toNat]
  else if e.kind = 9 ∨ e.kind = 10 then [decL e.stamp.toNat]
  else (if 0 < e.iff then [[105, 102], decL e.iff.toNat] else []) ++ (bytesL (wordsL e.val) ++ (bytesL (e.eds.map wordE) ++ bytesL (e.pred.map wordM)))
def wordsEn (e : En) : List (List UInt8) :=
  nameK e.kind :: ((if e.temp = ⟨#[]⟩ then [] else [64 :: e.temp.data.toList]) ++ ((if e.kind = 11 ∨ e.kind = 12 then [decL e.stamp.toNat] else []) ++ keyWd e :: tailW e))
def kindW (x : List UInt8) : Nat := if x = [] then 0 else ((List.range 13).find? fun k => decide (nameN k = x)).getD 0
def keyR (x : List UInt8) : Option (ByteArray × ByteArray) :=
  if Lib.indexByte x 47 = -1 then none
  else
    let i := (Lib.indexByte x 47).toNat
    if keyB ⟨(x.take i).toArray⟩ ⟨(x.drop (i + 1)).toArray⟩ = true then some (⟨(x.take i).toArray⟩, ⟨(x.drop (i + 1)).toArray⟩) else none
def valR (w : List (List UInt8)) : Option (List Fld) := (fieldsW w).bind fun fs => if codeF fs = 0 then some (ansF fs) else none
def edsR (w : List (List UInt8)) : Option (List Ed) := if codeL (editsW w) = 0 then some (ansL (editsW w)) else none
def prdR (w : List (List UInt8)) : Option (List Tm) := if codeW (termsW w) = 0 then some (ansW (termsW w)) else none
def restR (e : En) (w : List (List UInt8)) : Option En :=
  if e.kind = 1 ∨ e.kind = 3 then (valR w).map fun v => { e with val := v }
  else if e.kind = 2 then
    if [63] ∈ w then (valR (w.takeWhile fun x => decide (x ≠ [63]))).bind fun v => (prdR ((w.dropWhile fun x => decide (x ≠ [63])).drop 1)).map fun p => { e with val := v, pred := p }
    else none
  else if e.kind = 4 then (edsR w).map fun d => { e with eds := d }
  else if e.kind = 5 then if w = [] then some e else none
  else (prdR w).map fun p => { e with pred := p }
def smallR (x : Option (List UInt8)) : Option Nat := x.bind (numL 999999999)
def stampR (x : Option (List UInt8)) : Option Nat := x.bind (numL 18446744073709551615)
def tailR (e : En) (w : List (List UInt8)) : Option En :=
  if e.kind = 7 then if w.length = 1 then (smallR w[0]?).map fun n => { e with num := n } else none
  else if e.kind = 9 ∨ e.kind = 10 then if w.length = 1 then (stampR w[0]?).map fun n => { e with stamp := n } else none
  else if e.kind = 6 ∨ e.kind = 11 then if w = [] then some e else none
  else if 3 ≤ e.kind ∧ e.kind ≤ 5 ∧ w[0]? = some [105, 102] then (smallR w[1]?).bind fun n => if n = 0 then none else restR { e with iff := n } (w.drop 2)
  else restR e w
def keyT (e : En) : List (List UInt8) → Option En
  | [] => none
  | x :: w =>
    if typedK e.kind = true then tailR { e with ka := ⟨x.toArray⟩ } w
    else (keyR x).bind fun k => tailR { e with ka := k.1, kb := k.2 } w
def stampT (e : En) (w : List (List UInt8)) : Option En :=
  if 10 < e.kind then (stampR w[0]?).bind fun n => keyT { e with stamp := n } (w.drop 1) else keyT e w
def zeroEn (k : Int) : En := ⟨k, ⟨#[]⟩, ⟨#[]⟩, ⟨#[]⟩, 0, [], [], [], 0, 0⟩
def tempT (e : En) : List (List UInt8) → Option En
  | (64 :: t) :: w => if e.kind ≤ 2 then if t = [] then none else stampT { e with temp := ⟨t.toArray⟩ } w else stampT e ((64 :: t) :: w)
  | w => stampT e w
def entryR : List (List UInt8) → Option En
  | [] => none
  | x :: w => if kindW x = 0 then none else tempT (zeroEn (kindW x)) w
def entriesW : List En → List (List UInt8)
  | [] => []
  | [e] => wordsEn e
  | e :: f :: l => wordsEn e ++ [59] :: entriesW (f :: l)
def cutSemi : List (List UInt8) → List (List (List UInt8))
  | [] => [[]]
  | x :: w => if x = [59] then [] :: cutSemi w else match cutSemi w with
    | [] => [[x]]
    | c :: cs => (x :: c) :: cs
def entriesR : List (List (List UInt8)) → Option (List En)
  | [] => some []
  | c :: cs => (entryR c).bind fun e => (entriesR cs).map (e :: ·)
def onceW : List UInt8 := [111, 110, 99, 101]
def wordsRq (once : Bool) (l : List En) : List (List UInt8) := (if once = true then [onceW] else []) ++ entriesW l
def readRq (w : List (List UInt8)) : Option (Bool × List En) :=
  let once := decide (w.head? = some onceW)
  (entriesR (cutSemi (if once = true then w.drop 1 else w))).bind fun l => if mayRq l = true then some (once, l) else none
theorem kind_name : ∀ k : Nat, 1 ≤ k → k ≤ 12 → kindW (nameN k) = k := by
  intro k h1 h2
  match k with
  | 1 | 2 | 3 | 4 | 5 | 6 | 7 | 8 | 9 | 10 | 11 | 12 => decide
  | 0 => omega
  | n + 13 => omega
theorem cutSemi_no : ∀ w : List (List UInt8), (∀ x ∈ w, x ≠ [59]) → cutSemi w = [w]
  | [], _ => rfl
  | x :: w, h => by
    have ih := cutSemi_no w fun y hy => h y (by simp [hy])
    simp only [cutSemi, ih]
    rw [if_neg (h x (by simp))]
theorem cutSemi_at : ∀ (w v : List (List UInt8)), (∀ x ∈ w, x ≠ [59]) → cutSemi (w ++ [59] :: v) = w :: cutSemi v
  | [], v, _ => by simp only [List.nil_append, cutSemi]; rfl
  | x :: w, v, h => by
    have ih := cutSemi_at w v fun y hy => h y (by simp [hy])
    simp only [List.cons_append, cutSemi, ih]
    rw [if_neg (h x (by simp))]
theorem cut_entries : ∀ l : List En, l ≠ [] → (∀ e ∈ l, ∀ x ∈ wordsEn e, x ≠ [59]) → cutSemi (entriesW l) = l.map wordsEn
  | [], h, _ => absurd rfl h
  | [e], _, h => by
    simp only [entriesW, List.map_cons, List.map_nil]
    exact cutSemi_no _ (h e (by simp))
  | e :: f :: l, _, h => by
    have ih := cut_entries (f :: l) (by simp) fun g hg => h g (by simp [hg])
    simp only [entriesW]
    rw [cutSemi_at _ _ (h e (by simp)), ih]
    rfl
theorem read_entries (l : List En) (h : ∀ e ∈ l, entryR (wordsEn e) = some e) : entriesR (l.map wordsEn) = some l := by
  induction l with
  | nil => rfl
  | cons e l ih =>
    simp only [List.map_cons, entriesR]
    rw [h e (by simp), ih fun g hg => h g (by simp [hg])]
    rfl
end Go.Proofs.YtpdccbeeoapplaaGreatDoor

namespace Go.Proofs.YtpdccbeeoapplaaGreatDoor
open Go.RowKit Go.Lib
structure MayP (e : En) : Prop where
  k1 : 1 ≤ e.kind
  k2 : e.kind ≤ 12
  key : keyEn e = true
  tmp : e.temp = ⟨#[]⟩ ∨ e.kind ≤ 2 ∧ tempB e.temp.data.toList = true
  iff : e.iff ≠ 0 → 3 ≤ e.kind ∧ e.kind ≤ 5 ∧ 0 ≤ e.iff ∧ e.iff ≤ 999999999
  num : e.num ≠ 0 → e.kind = 7 ∧ 0 ≤ e.num ∧ e.num ≤ 999999999
  stamp : e.stamp ≠ 0 → 9 ≤ e.kind
  val : e.val ≠ [] → e.kind ≤ 3
  mayv : mayB e.val = true
  eds : e.eds ≠ [] ↔ e.kind = 4
  maye : mayE e.eds = 0
  mayp : mayM e.pred = 0
  srt : sortM e.pred = e.pred
  pred : e.pred ≠ [] → e.kind = 2 ∨ e.kind = 8 ∨ e.kind = 12
theorem mayEn_parts {e : En} (h : mayEn e = true) : MayP e := by
  unfold mayEn at h
  simp only [Bool.and_eq_true, Bool.or_eq_true, decide_eq_true_eq] at h
  obtain ⟨⟨⟨⟨⟨⟨⟨⟨⟨⟨⟨⟨h1, h2⟩, h3⟩, h4⟩, h5⟩, h6⟩, h7⟩, h8⟩, h9⟩, h10⟩, h11⟩, ⟨h12, h13⟩⟩, h14⟩ := h
  exact ⟨h1, h2, h3, h4, h5, h6, h7, h8, h9, h10, h11, h12, h13, h14⟩
theorem val_back {v : List Fld} (h : mayB v = true) : valR (bytesL (wordsL v)) = some v := by
  unfold valR bytesL
  rw [words_back v fun f hf => (fits_parts (may_fits h f hf)).2.2.2.2]
  simp only [Option.bind_some]
  rw [(norm_singles h).1, if_pos rfl, (norm_singles h).2]
theorem eds_back {p : List Ed} (h : mayE p = 0) : edsR (bytesL (p.map wordE)) = some p := by
  obtain ⟨_, h1, h2, _⟩ := mayE_zero h
  unfold edsR bytesL
  rw [edits_back p fun x hx => ⟨h1 x hx, h2 x hx⟩]
  have e : codeL (some p) = 0 := h
  rw [if_pos e]
  show some (if mayE p = 0 then p else []) = some p
  rw [if_pos h]
theorem prd_back {p : List Tm} (h : mayM p = 0) (hs : sortM p = p) : prdR (bytesL (p.map wordM)) = some p := by
  obtain ⟨_, h1, h2, _⟩ := mayM_zero h
  unfold prdR bytesL
  rw [terms_back p fun x hx => ⟨List.all_eq_true.1 h1 x hx, List.all_eq_true.1 h2 x hx⟩]
  have e : codeW (some p) = 0 := h
  rw [if_pos e]
  show some (if mayM p = 0 then sortM p else []) = some p
  rw [if_pos h, hs]
theorem field_pos {l : List UInt8} (h : fieldB l = true) : 0 < l.length := by
  cases l with
  | nil => cases h
  | cons x r => simp
theorem valW_is {v : List Fld} (h : mayB v = true) : ∀ x ∈ bytesL (wordsL v), 2 ≤ x.length ∧ 61 ∈ x ∧ 32 ∉ x := by
  intro x hx
  obtain ⟨y, hy, rfl⟩ := List.mem_map.1 hx
  obtain ⟨f, hf, hy⟩ := List.mem_flatMap.1 hy
  obtain ⟨t, _, rfl⟩ := List.mem_map.1 hy
  have hn := (fits_parts (may_fits h f hf)).2.2.2.2
  have := field_pos hn
  refine ⟨?_, ?_, noblank_mem (word_noblank hn)⟩
  · simp only [word_data, List.length_append, List.length_cons, List.length_nil]; omega
  · simp [word_data]
theorem edsW_is {p : List Ed} (h : mayE p = 0) : ∀ x ∈ bytesL (p.map wordE), 2 ≤ x.length ∧ (61 ∈ x ∨ 126 ∈ x) ∧ 32 ∉ x := by
  intro x hx
  obtain ⟨y, hy, rfl⟩ := List.mem_map.1 hx
  obtain ⟨z, hz, rfl⟩ := List.mem_map.1 hy
  have hn := (mayE_zero h).2.1 z hz
  have := field_pos hn
  have hs := (sign_size z.1).2
  refine ⟨?_, ?_, wordE_noblank hn⟩
  · have e : (signS z.1).data.toList.length = (signS z.1).size := by simp
    simp only [wordE_data, List.length_append]
    omega
  · rw [wordE_data]
    have : 61 ∈ (signS z.1).data.toList ∨ 126 ∈ (signS z.1).data.toList := by
      unfold signS
      repeat' split
      all_goals decide
    rcases this with h | h
    · exact .inl (by simp [h])
    · exact .inr (by simp [h])
theorem prdW_is {p : List Tm} (h : mayM p = 0) : ∀ x ∈ bytesL (p.map wordM), 2 ≤ x.length ∧ 32 ∉ x := by
  intro x hx
  obtain ⟨y, hy, rfl⟩ := List.mem_map.1 hx
  obtain ⟨z, hz, rfl⟩ := List.mem_map.1 hy
  have hn := List.all_eq_true.1 (mayM_zero h).2.1 z hz
  have := field_pos hn
  refine ⟨?_, wordM_noblank hn⟩
  simp only [wordM_data, List.length_append, List.length_cons]; omega
theorem type_head {l : List UInt8} (h : typeB l = true) : ∃ c r, l = c :: r ∧ 65 ≤ c.toNat ∧ c.toNat ≤ 90 := by
  cases l with
  | nil => cases h
  | cons c r =>
    unfold typeB spell at h
    simp only [Bool.and_eq_true] at h
    have hb := h.1.2
    unfold bigB at hb
    simp only [Bool.and_eq_true, decide_eq_true_eq] at hb
    exact ⟨c, r, rfl, by omega, by omega⟩
theorem type_no47 {l : List UInt8} (h : typeB l = true) : (47 : UInt8) ∉ l ∧ (32 : UInt8) ∉ l := by
  cases l with
  | nil => cases h
  | cons c r =>
    unfold typeB spell at h
    simp only [Bool.and_eq_true, List.all_eq_true] at h
    have key : ∀ x : UInt8, x ∈ c :: r → letB (x.toNat : Int) = true := by
      intro x hx
      rcases List.mem_cons.1 hx with e | hx
      · subst e; unfold letB; rw [h.1.2]; rfl
      · exact h.2 x hx
    exact ⟨fun hm => absurd (key 47 hm) (by decide), fun hm => absurd (key 32 hm) (by decide)⟩
theorem iden_is {l : List UInt8} (h : idenB l = true) : l ≠ [] ∧ (32 : UInt8) ∉ l := by
  cases l with
  | nil => cases h
  | cons c r =>
    unfold idenB spell at h
    simp only [Bool.and_eq_true, List.all_eq_true] at h
    have key : ∀ x : UInt8, x ∈ c :: r → idB (x.toNat : Int) = true := by
      intro x hx
      rcases List.mem_cons.1 hx with e | hx
      · subst e; exact h.1.2
      · exact h.2 x hx
    exact ⟨by simp, fun hm => absurd (key 32 hm) (by decide)⟩
theorem temp_is {l : List UInt8} (h : tempB l = true) : l ≠ [] ∧ (32 : UInt8) ∉ l := by
  cases l with
  | nil => cases h
  | cons c r =>
    unfold tempB spell at h
    simp only [Bool.and_eq_true, List.all_eq_true] at h
    have key : ∀ x : UInt8, x ∈ c :: r → lodB (x.toNat : Int) = true := by
      intro x hx
      rcases List.mem_cons.1 hx with e | hx
      · subst e; exact h.1.2
      · exact h.2 x hx
    exact ⟨by simp, fun hm => absurd (key 32 hm) (by decide)⟩
theorem ba_empty {b : ByteArray} (h : b.data.toList = []) : b = ⟨#[]⟩ := by
  obtain ⟨⟨l⟩⟩ := b
  simp only at h
  subst h; rfl
theorem keyB_two {a b : ByteArray} (h : keyB a b = true) : typeB a.data.toList = true ∧ idenB b.data.toList = true := by
  unfold keyB at h; simpa only [Bool.and_eq_true] using h
theorem keyT_cons (f : En) (x : List UInt8) (w : List (List UInt8)) :
    keyT f (x :: w) = if typedK f.kind = true then tailR { f with ka := ⟨x.toArray⟩ } w else (keyR x).bind fun k => tailR { f with ka := k.1, kb := k.2 } w := rfl
theorem key_back {e : En} (h : keyEn e = true) (w : List (List UInt8)) (f : En) (hk : f.kind = e.kind) (hb : f.kb = ⟨#[]⟩) :
    keyT f (keyWd e :: w) = tailR { f with ka := e.ka, kb := e.kb } w := by
  unfold keyEn at h
  rw [keyT_cons, hk]
  unfold keyWd
  by_cases ht : typedK e.kind = true
  · rw [if_pos ht] at h
    simp only [Bool.and_eq_true, decide_eq_true_eq] at h
    rw [if_pos ht, if_pos h.1, List.append_nil, ba_back, h.1, hb]
  · rw [if_neg ht] at h
    obtain ⟨h1, h2⟩ := keyB_two h
    have hne : ¬ e.kb = ⟨#[]⟩ := fun q => (iden_is h2).1 (by rw [q])
    have hx := ix_here (b := e.kb.data.toList) (type_no47 h1).1
    rw [if_neg ht, if_neg hne]
    have hr : keyR (e.ka.data.toList ++ 47 :: e.kb.data.toList) = some (e.ka, e.kb) := by
      unfold keyR
      rw [hx, if_neg (by omega)]
      simp only [Int.toNat_natCast]
      rw [List.take_left' rfl, show e.ka.data.toList ++ 47 :: e.kb.data.toList = (e.ka.data.toList ++ [47]) ++ e.kb.data.toList by simp, List.drop_left' (by simp), ba_back, ba_back, if_pos h]
    rw [hr]
    rfl
theorem keyWd_is {e : En} (h : keyEn e = true) : ∃ c r, keyWd e = c :: r ∧ 65 ≤ c.toNat ∧ c.toNat ≤ 90 := by
  have ht : typeB e.ka.data.toList = true := by
    unfold keyEn at h
    split at h
    · simp only [Bool.and_eq_true] at h; exact h.2
    · exact (keyB_two h).1
  obtain ⟨c, r, h1, h2, h3⟩ := type_head ht
  unfold keyWd
  rw [h1]
  exact ⟨c, _, rfl, h2, h3⟩
theorem keyWd_noblank {e : En} (h : keyEn e = true) : (32 : UInt8) ∉ keyWd e := by
  unfold keyEn at h
  unfold keyWd
  split at h
  · simp only [Bool.and_eq_true, decide_eq_true_eq] at h
    rw [if_pos h.1, List.append_nil]
    exact (type_no47 h.2).2
  · obtain ⟨h1, h2⟩ := keyB_two h
    rw [if_neg fun q => (iden_is h2).1 (by rw [q])]
    intro hm
    rcases List.mem_append.1 hm with hm | hm
    · exact (type_no47 h1).2 hm
    · rcases List.mem_cons.1 hm with e | hm
      · exact absurd e (by decide)
      · exact (iden_is h2).2 hm
end Go.Proofs.YtpdccbeeoapplaaGreatDoor

namespace Go.Proofs.YtpdccbeeoapplaaGreatDoor
open Go.RowKit Go.Lib
theorem tailR_if (f : En) (n : Nat) (h1 : 3 ≤ f.kind) (h2 : f.kind ≤ 5) (hn : 0 < n) (hm : n ≤ 999999999) (w : List (List UInt8)) :
    tailR f ([105, 102] :: decL n :: w) = restR { f with iff := n } w := by
  unfold tailR
  rw [if_neg (by omega), if_neg (by omega), if_neg (by omega), if_pos ⟨h1, h2, rfl⟩]
  show (smallR (some (decL n))).bind _ = _
  unfold smallR
  simp only [Option.bind_some]
  rw [num_dec hm]
  simp only [Option.bind_some]
  rw [if_neg (by omega)]
  rfl
theorem tailR_no (f : En) (w : List (List UInt8)) (h6 : f.kind ≠ 6) (h7 : f.kind ≠ 7) (h9 : f.kind ≠ 9) (h10 : f.kind ≠ 10) (h11 : f.kind ≠ 11) (hw : 3 ≤ f.kind → f.kind ≤ 5 → w[0]? ≠ some [105, 102]) :
    tailR f w = restR f w := by
  unfold tailR
  rw [if_neg h7, if_neg (by omega), if_neg (by omega), if_neg (fun h => hw h.1 h.2.1 h.2.2)]
theorem rest_val (f : En) {v : List Fld} (hv : mayB v = true) (hk : f.kind = 1 ∨ f.kind = 3) : restR f (bytesL (wordsL v)) = some { f with val := v } := by
  unfold restR
  rw [if_pos hk, val_back hv]
  rfl
theorem rest_eds (f : En) {p : List Ed} (hp : mayE p = 0) (hk : f.kind = 4) : restR f (bytesL (p.map wordE)) = some { f with eds := p } := by
  unfold restR
  rw [if_neg (by omega), if_neg (by omega), if_pos hk, eds_back hp]
  rfl
theorem rest_del (f : En) (hk : f.kind = 5) : restR f [] = some f := by
  unfold restR
  rw [if_neg (by omega), if_neg (by omega), if_neg (by omega), if_pos hk, if_pos rfl]
theorem rest_prd (f : En) {p : List Tm} (hp : mayM p = 0) (hs : sortM p = p) (hk : 5 < f.kind) : restR f (bytesL (p.map wordM)) = some { f with pred := p } := by
  unfold restR
  rw [if_neg (by omega), if_neg (by omega), if_neg (by omega), if_neg (by omega), prd_back hp hs]
  rfl
theorem while_to {a : List (List UInt8)} (b : List (List UInt8)) (h : ∀ x ∈ a, x ≠ [63]) :
    (a ++ [63] :: b).takeWhile (fun x => decide (x ≠ [63])) = a ∧ (a ++ [63] :: b).dropWhile (fun x => decide (x ≠ [63])) = [63] :: b := by
  induction a with
  | nil => exact ⟨rfl, rfl⟩
  | cons x a ih =>
    have ih := ih fun y hy => h y (by simp [hy])
    have hx : decide (x ≠ [63]) = true := decide_eq_true (h x (by simp))
    simp only [List.cons_append, List.takeWhile_cons, List.dropWhile_cons, hx, if_true]
    exact ⟨by rw [ih.1], ih.2⟩
theorem rest_ens (f : En) {v : List Fld} {p : List Tm} (hv : mayB v = true) (hp : mayM p = 0) (hs : sortM p = p) (hk : f.kind = 2) :
    restR f (bytesL (wordsL v) ++ [63] :: bytesL (p.map wordM)) = some { f with val := v, pred := p } := by
  have hq := while_to (bytesL (p.map wordM)) fun x hx e => by
    have := (valW_is hv x hx).1
    rw [e] at this
    simp at this
  unfold restR
  rw [if_neg (by omega), if_pos hk, if_pos (by simp), hq.1, hq.2, val_back hv]
  simp only [Option.bind_some, List.drop_succ_cons, List.drop_zero]
  rw [prd_back hp hs]
  rfl
theorem tail_back {e : En} (h : MayP e) (hs0 : 0 ≤ e.stamp) (hs1 : e.stamp ≤ 18446744073709551615) :
    tailR ⟨e.kind, e.temp, e.ka, e.kb, 0, [], [], [], if e.kind = 11 ∨ e.kind = 12 then e.stamp else 0, 0⟩ (tailW e) = some e := by
  obtain ⟨k, temp, ka, kb, iff, val, eds, pred, stamp, num⟩ := e
  obtain ⟨h1, h2, _, _, h5, h6, h7, h8, h9, h10, h11, h12, h13, h14⟩ := h
  simp only at h1 h2 h5 h6 h7 h8 h9 h10 h11 h12 h13 h14 hs0 hs1 ⊢
  have niff : ¬ (3 ≤ k ∧ k ≤ 5) → iff = 0 := fun q => Classical.byContradiction fun p => q ⟨(h5 p).1, (h5 p).2.1⟩
  have nnum : k ≠ 7 → num = 0 := fun q => Classical.byContradiction fun p => q (h6 p).1
  have nst : ¬ 9 ≤ k → stamp = 0 := fun q => Classical.byContradiction fun p => q (h7 p)
  have nval : ¬ k ≤ 3 → val = [] := fun q => Classical.byContradiction fun p => q (h8 p)
  have neds : k ≠ 4 → eds = [] := fun q => Classical.byContradiction fun p => q (h10.1 p)
  have npred : ¬ (k = 2 ∨ k = 8 ∨ k = 12) → pred = [] := fun q => Classical.byContradiction fun p => q (h14 p)
  have hiff : 0 ≤ iff ∧ iff ≤ 999999999 := by
    by_cases q : iff = 0
    · omega
    · exact ⟨(h5 q).2.2.1, (h5 q).2.2.2⟩
  have eiff : ((iff.toNat : Nat) : Int) = iff := Int.toNat_of_nonneg hiff.1
  have est : ((stamp.toNat : Nat) : Int) = stamp := Int.toNat_of_nonneg hs0
  unfold tailW
  simp only
  by_cases k2 : k = 2
  · obtain rfl := neds (by omega)
    obtain rfl := niff (by omega)
    obtain rfl := nnum (by omega)
    obtain rfl := nst (by omega)
    rw [if_pos k2, if_neg (show ¬ (k = 11 ∨ k = 12) by omega), tailR_no _ _ (by simp only; omega) (by simp only; omega) (by simp only; omega) (by simp only; omega) (by simp only; omega) (fun q => by simp only at q; omega), rest_ens _ h9 h12 h13 k2]
  rw [if_neg k2]
  by_cases k7 : k = 7
  · obtain rfl := neds (by omega)
    obtain rfl := niff (by omega)
    obtain rfl := nval (by omega)
    obtain rfl := npred (by omega)
    obtain rfl := nst (by omega)
    have hn : 0 ≤ num ∧ num ≤ 999999999 := by
      by_cases q : num = 0
      · omega
      · exact (h6 q).2
    have en : ((num.toNat : Nat) : Int) = num := Int.toNat_of_nonneg hn.1
    rw [if_pos k7, if_neg (show ¬ (k = 11 ∨ k = 12) by omega)]
    unfold tailR
    rw [if_pos k7, if_pos (show [decL num.toNat].length = 1 from rfl)]
    rw [List.getElem?_cons_zero]
    unfold smallR
    simp only [Option.bind_some]
    rw [num_dec (by omega)]
    exact congrArg (fun z : Int => some (En.mk k temp ka kb 0 [] [] [] 0 z)) en
  rw [if_neg k7]
  obtain rfl := nnum k7
  by_cases k9 : k = 9 ∨ k = 10
  · obtain rfl := neds (by omega)
    obtain rfl := niff (by omega)
    obtain rfl := nval (by omega)
    obtain rfl := npred (by omega)
    rw [if_pos k9, if_neg (show ¬ (k = 11 ∨ k = 12) by omega)]
    unfold tailR
    rw [if_neg k7, if_pos k9, if_pos (show [decL stamp.toNat].length = 1 from rfl)]
    rw [List.getElem?_cons_zero]
    unfold stampR
    simp only [Option.bind_some]
    rw [num_dec (by omega)]
    exact congrArg (fun z : Int => some (En.mk k temp ka kb 0 [] [] [] z 0)) est
  rw [if_neg k9]
  by_cases k6 : k = 6 ∨ k = 11
  · obtain rfl := neds (by omega)
    obtain rfl := niff (by omega)
    obtain rfl := nval (by omega)
    obtain rfl := npred (by omega)
    rw [if_neg (show ¬ (0 : Int) < 0 by omega)]
    unfold tailR
    rw [if_neg k7, if_neg k9, if_pos k6, if_pos (show ([] ++ (bytesL (wordsL []) ++ (bytesL (List.map wordE []) ++ bytesL (List.map wordM []))) : List (List UInt8)) = [] from rfl)]
    by_cases q : k = 6
    · obtain rfl := nst (by omega)
      rw [if_neg (show ¬ (k = 11 ∨ k = 12) by omega)]
    · rw [if_pos (show k = 11 ∨ k = 12 by omega)]
  by_cases k8 : 5 < k
  · obtain rfl := neds (by omega)
    obtain rfl := niff (by omega)
    obtain rfl := nval (by omega)
    rw [if_neg (show ¬ (0 : Int) < 0 by omega)]
    show tailR _ (bytesL (pred.map wordM)) = _
    rw [tailR_no _ _ (by simp only; omega) (by simp only; omega) (by simp only; omega) (by simp only; omega) (by simp only; omega) (fun _ q => by simp only at q; omega), rest_prd _ h12 h13 (by simp only; omega)]
    by_cases q : k = 12
    · rw [if_pos (show k = 11 ∨ k = 12 by omega)]
    · obtain rfl := nst (by omega)
      rw [if_neg (show ¬ (k = 11 ∨ k = 12) by omega)]
  obtain rfl := npred (by omega)
  obtain rfl := nst (by omega)
  rw [if_neg (show ¬ (k = 11 ∨ k = 12) by omega)]
  have go : ∀ (f : En) (W : List (List UInt8)), f.kind = k → f.iff = 0 → (∀ x ∈ W, x ≠ [105, 102]) → tailR f ((if 0 < iff then [[105, 102], decL iff.toNat] else []) ++ W) = restR { f with iff := iff } W := by
    intro f W hf h0 hW
    by_cases q : 0 < iff
    · have := h5 (by omega)
      rw [if_pos q]
      show tailR f ([105, 102] :: decL iff.toNat :: W) = _
      rw [tailR_if f iff.toNat (by omega) (by omega) (by omega) (by omega), eiff]
    · rw [if_neg q, List.nil_append, tailR_no f W (by omega) (by omega) (by omega) (by omega) (by omega) (fun _ _ p => by
        cases W with
        | nil => simp at p
        | cons x W => exact hW x (by simp) (by simpa using p))]
      have : iff = f.iff := by omega
      rw [this]
  by_cases k4 : k = 4
  · obtain rfl := nval (by omega)
    show tailR _ (_ ++ (bytesL (eds.map wordE) ++ [])) = _
    rw [List.append_nil, go _ _ rfl rfl (fun x hx e => by
      have := (edsW_is h11 x hx).2.1
      rw [e] at this
      revert this; decide), rest_eds _ h11 k4]
  obtain rfl := neds k4
  by_cases k5 : k = 5
  · obtain rfl := nval (by omega)
    show tailR _ (_ ++ []) = _
    rw [go _ [] rfl rfl (by simp), rest_del _ k5]
  · show tailR _ (_ ++ (bytesL (wordsL val) ++ [])) = _
    rw [List.append_nil, go _ _ rfl rfl (fun x hx e => by
      have := (valW_is h9 x hx).2.1
      rw [e] at this
      revert this; decide), rest_val _ h9 (by simp only; omega)]
end Go.Proofs.YtpdccbeeoapplaaGreatDoor

namespace Go.Proofs.YtpdccbeeoapplaaGreatDoor
open Go.RowKit Go.Lib
theorem stampT_back (f : En) (k : Int) (st : Int) (hk : f.kind = k) (h12 : k ≤ 12) (h0 : 0 ≤ st) (h1 : st ≤ 18446744073709551615) (W : List (List UInt8)) :
    stampT f ((if k = 11 ∨ k = 12 then [decL st.toNat] else []) ++ W) = keyT { f with stamp := if k = 11 ∨ k = 12 then st else f.stamp } W := by
  unfold stampT
  by_cases q : k = 11 ∨ k = 12
  · rw [if_pos q, if_pos q, if_pos (by omega)]
    have e0 : ([decL st.toNat] ++ W)[0]? = some (decL st.toNat) := by rw [List.singleton_append, List.getElem?_cons_zero]
    rw [e0]
    unfold stampR
    simp only [Option.bind_some]
    rw [num_dec (by omega)]
    have e1 : ((st.toNat : Nat) : Int) = st := Int.toNat_of_nonneg h0
    show keyT { f with stamp := (st.toNat : Int) } W = _
    rw [e1]
  · rw [if_neg q, if_neg q, if_neg (by omega), List.nil_append]
theorem entryR_cons (x : List UInt8) (w : List (List UInt8)) : entryR (x :: w) = if kindW x = 0 then none else tempT (zeroEn (kindW x)) w := rfl
theorem tempT_no (e : En) (w : List (List UInt8)) (h : e.kind ≤ 2 → ∀ t w', w ≠ (64 :: t) :: w') : tempT e w = stampT e w := by
  unfold tempT
  split
  · next t w' =>
    rw [if_neg fun q => h q t w' rfl]
  · rfl
theorem entryR_plain (x : List UInt8) (w : List (List UInt8)) (hk : kindW x ≠ 0) (h : kindW x ≤ 2 → ∀ t w', w ≠ (64 :: t) :: w') : entryR (x :: w) = stampT (zeroEn (kindW x)) w := by
  rw [entryR_cons, if_neg hk, tempT_no _ _ fun q => h (by simp only [zeroEn] at q; omega)]
theorem entryR_temp (x t : List UInt8) (w : List (List UInt8)) (hk : kindW x ≠ 0) (h : kindW x ≤ 2) (ht : t ≠ []) : entryR (x :: (64 :: t) :: w) = stampT { zeroEn (kindW x) with temp := ⟨t.toArray⟩ } w := by
  rw [entryR_cons, if_neg hk]
  have : (zeroEn (kindW x)).kind ≤ 2 := by simp only [zeroEn]; omega
  show (if (zeroEn (kindW x)).kind ≤ 2 then if t = [] then none else stampT { zeroEn (kindW x) with temp := ⟨t.toArray⟩ } w else _) = _
  rw [if_pos this, if_neg ht]
theorem entry_back {e : En} (h : MayP e) (hs0 : 0 ≤ e.stamp) (hs1 : e.stamp ≤ 18446744073709551615) : entryR (wordsEn e) = some e := by
  have hn : kindW (nameK e.kind) = e.kind.toNat := kind_name _ (by have := h.k1; omega) (by have := h.k2; omega)
  have hki : ((e.kind.toNat : Nat) : Int) = e.kind := Int.toNat_of_nonneg (by have := h.k1; omega)
  have h1 := h.k1
  have h2 := h.k2
  have fin : ∀ t : ByteArray, t = e.temp → stampT { zeroEn (kindW (nameK e.kind)) with temp := t } ((if e.kind = 11 ∨ e.kind = 12 then [decL e.stamp.toNat] else []) ++ keyWd e :: tailW e) = some e := by
    rintro t rfl
    rw [hn]
    unfold zeroEn
    simp only [hki]
    have q := stampT_back ⟨e.kind, e.temp, ⟨#[]⟩, ⟨#[]⟩, 0, [], [], [], 0, 0⟩ e.kind e.stamp rfl h2 hs0 hs1 (keyWd e :: tailW e)
    exact q.trans ((key_back h.key (tailW e) ⟨e.kind, e.temp, ⟨#[]⟩, ⟨#[]⟩, 0, [], [], [], if e.kind = 11 ∨ e.kind = 12 then e.stamp else 0, 0⟩ rfl rfl).trans (tail_back h hs0 hs1))
  unfold wordsEn
  by_cases ht : e.temp = ⟨#[]⟩
  · rw [if_pos ht, List.nil_append, entryR_plain _ _ (by rw [hn]; omega)]
    · exact fin _ ht.symm
    · intro hk t w' q
      rw [hn] at hk
      rw [if_neg (show ¬ (e.kind = 11 ∨ e.kind = 12) by omega), List.nil_append] at q
      obtain ⟨c, r, e1, e2, e3⟩ := keyWd_is h.key
      rw [e1] at q
      have q1 : c = 64 := by simp only [List.cons.injEq] at q; exact q.1.1
      rw [q1] at e2
      revert e2; decide
  · have hte := (h.tmp.resolve_left ht)
    rw [if_neg ht, List.singleton_append, entryR_temp _ _ _ (by rw [hn]; omega) (by rw [hn]; omega) (fun q => ht (ba_empty q)), ba_back]
    exact fin _ rfl
theorem dec_is (n : Nat) : ∀ x ∈ [decL n], x ≠ [59] ∧ 32 ∉ x ∧ x ≠ [] := by
  intro x hx
  rw [List.mem_singleton] at hx
  subst hx
  refine ⟨fun q => ?_, decL_noblank n, decL_ne n⟩
  have := (decL_digit n 59 (by rw [q]; simp)).2
  revert this; decide
theorem name_is (k : Int) (h1 : 1 ≤ k) (h2 : k ≤ 12) : nameK k ≠ [59] ∧ 32 ∉ nameK k ∧ nameK k ≠ [] ∧ nameK k ≠ onceW := by
  unfold nameK
  have : k = 1 ∨ k = 2 ∨ k = 3 ∨ k = 4 ∨ k = 5 ∨ k = 6 ∨ k = 7 ∨ k = 8 ∨ k = 9 ∨ k = 10 ∨ k = 11 ∨ k = 12 := by omega
  rcases this with rfl | rfl | rfl | rfl | rfl | rfl | rfl | rfl | rfl | rfl | rfl | rfl <;> decide
theorem wordsEn_is {e : En} (h : MayP e) : ∀ x ∈ wordsEn e, x ≠ [59] ∧ 32 ∉ x ∧ x ≠ [] := by
  have two : ∀ x : List UInt8, 2 ≤ x.length → x ≠ [59] ∧ x ≠ [] := fun x hx => ⟨fun q => by rw [q] at hx; simp at hx, fun q => by rw [q] at hx; simp at hx⟩
  have hv : ∀ x ∈ bytesL (wordsL e.val), x ≠ [59] ∧ 32 ∉ x ∧ x ≠ [] := fun x hx => ⟨(two x (valW_is h.mayv x hx).1).1, (valW_is h.mayv x hx).2.2, (two x (valW_is h.mayv x hx).1).2⟩
  have hd : ∀ x ∈ bytesL (e.eds.map wordE), x ≠ [59] ∧ 32 ∉ x ∧ x ≠ [] := fun x hx => ⟨(two x (edsW_is h.maye x hx).1).1, (edsW_is h.maye x hx).2.2, (two x (edsW_is h.maye x hx).1).2⟩
  have hp : ∀ x ∈ bytesL (e.pred.map wordM), x ≠ [59] ∧ 32 ∉ x ∧ x ≠ [] := fun x hx => ⟨(two x (prdW_is h.mayp x hx).1).1, (prdW_is h.mayp x hx).2, (two x (prdW_is h.mayp x hx).1).2⟩
  have ht : ∀ x ∈ tailW e, x ≠ [59] ∧ 32 ∉ x ∧ x ≠ [] := by
    intro x hx
    unfold tailW at hx
    split at hx
    · rcases List.mem_append.1 hx with hx | hx
      · exact hv x hx
      · rcases List.mem_cons.1 hx with rfl | hx
        · decide
        · exact hp x hx
    · split at hx
      · exact dec_is _ x hx
      · split at hx
        · exact dec_is _ x hx
        · rcases List.mem_append.1 hx with hx | hx
          · split at hx
            · rcases List.mem_cons.1 hx with rfl | hx
              · decide
              · exact dec_is _ x hx
            · cases hx
          · rcases List.mem_append.1 hx with hx | hx
            · exact hv x hx
            · rcases List.mem_append.1 hx with hx | hx
              · exact hd x hx
              · exact hp x hx
  intro x hx
  unfold wordsEn at hx
  rcases List.mem_cons.1 hx with rfl | hx
  · have := name_is e.kind h.k1 h.k2
    exact ⟨this.1, this.2.1, this.2.2.1⟩
  rcases List.mem_append.1 hx with hx | hx
  · split at hx
    · cases hx
    · next q =>
      rw [List.mem_singleton] at hx
      subst hx
      have hte := (h.tmp.resolve_left q).2
      refine ⟨fun r => absurd (List.cons.inj r).1 (by decide), fun r => ?_, by simp⟩
      rcases List.mem_cons.1 r with r | r
      · exact absurd r (by decide)
      · exact (temp_is hte).2 r
  rcases List.mem_append.1 hx with hx | hx
  · split at hx
    · exact dec_is _ x hx
    · cases hx
  rcases List.mem_cons.1 hx with rfl | hx
  · obtain ⟨c, r, e1, e2, e3⟩ := keyWd_is h.key
    refine ⟨fun q => ?_, keyWd_noblank h.key, by rw [e1]; simp⟩
    rw [e1] at q
    have q1 := (List.cons.inj q).1
    rw [q1] at e2
    revert e2; decide
  · exact ht x hx
theorem entriesW_is : ∀ {l : List En}, (∀ e ∈ l, MayP e) → ∀ x ∈ entriesW l, 32 ∉ x ∧ x ≠ []
  | [], _ => by intro x hx; cases hx
  | [e], h => by
    intro x hx
    exact (wordsEn_is (h e (by simp)) x hx).2
  | e :: f :: l, h => by
    intro x hx
    simp only [entriesW] at hx
    rcases List.mem_append.1 hx with hx | hx
    · exact (wordsEn_is (h e (by simp)) x hx).2
    · rcases List.mem_cons.1 hx with rfl | hx
      · decide
      · exact entriesW_is (fun g hg => h g (by simp [hg])) x hx
theorem entriesW_head {l : List En} (h0 : l ≠ []) (h : ∀ e ∈ l, MayP e) : (entriesW l).head? ≠ some onceW := by
  have key : ∀ e : En, MayP e → ∀ W, (wordsEn e ++ W).head? ≠ some onceW := by
    intro e he W q
    unfold wordsEn at q
    simp only [List.cons_append, List.head?_cons, Option.some.injEq] at q
    exact (name_is e.kind he.k1 he.k2).2.2.2 q
  match l, h0, h with
  | [e], _, h => have := key e (h e (by simp)) []; rwa [List.append_nil] at this
  | e :: f :: l, _, h => exact key e (h e (by simp)) _
theorem rq_back {once : Bool} {l : List En} (h : mayRq l = true) (hs : ∀ e ∈ l, 0 ≤ e.stamp ∧ e.stamp ≤ 18446744073709551615) : readRq (wordsRq once l) = some (once, l) := by
  have hm := h
  unfold mayRq at h
  simp only [Bool.and_eq_true, decide_eq_true_eq, List.all_eq_true] at h
  have hl : l ≠ [] := fun q => by rw [q] at h; simp at h
  have hp : ∀ e ∈ l, MayP e := fun e he => mayEn_parts (h.2 e he)
  have hcut := cut_entries l hl fun e he x hx => (wordsEn_is (hp e he) x hx).1
  have hre := read_entries l fun e he => entry_back (hp e he) (hs e he).1 (hs e he).2
  have hh := entriesW_head hl hp
  unfold readRq wordsRq
  cases once with
  | true =>
    have q : decide (([onceW] ++ entriesW l).head? = some onceW) = true := by simp
    simp only [if_true, q]
    rw [List.singleton_append, List.drop_succ_cons, List.drop_zero, hcut, hre]
    simp only [Option.bind_some, hm, if_true]
  | false =>
    have q : decide (([] ++ entriesW l).head? = some onceW) = false := by rw [List.nil_append]; exact decide_eq_false hh
    simp only [Bool.false_eq_true, if_false, q]
    rw [List.nil_append, hcut, hre]
    simp only [Option.bind_some, hm, if_true]
def lineRq (once : Bool) (l : List En) : List UInt8 := Lib.join (wordsRq once l) [32]
theorem wordsRq_is {once : Bool} {l : List En} (h : mayRq l = true) : wordsRq once l ≠ [] ∧ ∀ x ∈ wordsRq once l, 32 ∉ x ∧ x ≠ [] := by
  unfold mayRq at h
  simp only [Bool.and_eq_true, decide_eq_true_eq, List.all_eq_true] at h
  have hp : ∀ e ∈ l, MayP e := fun e he => mayEn_parts (h.2 e he)
  have hne : entriesW l ≠ [] := by
    match l, h with
    | [], h => simp at h
    | [e], _ => simp [entriesW, wordsEn]
    | e :: f :: l, _ => simp [entriesW]
  unfold wordsRq
  refine ⟨fun q => hne (List.append_eq_nil_iff.1 q).2, fun x hx => ?_⟩
  rcases List.mem_append.1 hx with hx | hx
  · split at hx
    · rw [List.mem_singleton] at hx; subst hx; decide
    · cases hx
  · exact entriesW_is hp x hx
theorem line_words {once : Bool} {l : List En} (h : mayRq l = true) : wordsAns (lineRq once l) = wordsRq once l := by
  obtain ⟨h1, h2⟩ := wordsRq_is (once := once) h
  unfold wordsAns lineRq
  have hs := split_join (wordsRq once l) h1 fun x hx => (h2 x hx).1
  rw [if_neg, hs]
  intro q
  rw [q] at hs
  have e : splitL ([] : List UInt8) = [[]] := splitL_no rfl
  rw [e] at hs
  exact (h2 [] (by rw [← hs]; simp)).2 rfl
end Go.Proofs.YtpdccbeeoapplaaGreatDoor

namespace Go.Proofs.YtpdccbeeoapplaaGreatDoor
open Go.RowKit Go.Lib
def shapeN : Nat → List Nat
  | 1 => [1, 2, 5]
  | 2 => [1, 2, 5, 6, 7]
  | 3 => [2, 4, 5]
  | 4 => [2, 4, 8]
  | 5 => [2, 4]
  | 6 => [2]
  | 7 => [2, 9]
  | 8 => [3, 7]
  | 9 => [2, 10]
  | 10 => [3, 10]
  | 11 => [10, 2]
  | 12 => [10, 3, 7]
  | _ => []
def joinW (w : List (List UInt8)) : List UInt8 := Lib.join w [32]
def spanP (w : List (List UInt8)) (p : Nat) : Nat :=
  if p = 1 then if w.head?.bind List.head? = some 64 then 1 else 0
  else if p = 4 then if w.head? = some [105, 102] then 2 else 0
  else if p = 5 then (w.takeWhile fun x => decide (x ≠ [63])).length
  else if p = 7 ∨ p = 8 then w.length
  else 1
def untag (x : List UInt8) : List UInt8 := if x.head? = some 64 then x.drop 1 else x
def unif (x : List UInt8) : List UInt8 := if [105, 102, 32].isPrefixOf x then x.drop 3 else x
def condL (x : List UInt8) : Option Nat := if x = [] then some 0 else (numL 999999999 (unif x)).bind fun n => if 0 < n then some n else none
def readP (e : En) (p : Nat) (x : List UInt8) : Option En :=
  if p = 1 then if x = [] ∨ tempB (untag x) = true then some { e with temp := ⟨(untag x).toArray⟩ } else none
  else if p = 2 then (keyR x).map fun k => { e with ka := k.1, kb := k.2 }
  else if p = 3 then if typeB x = true then some { e with ka := ⟨x.toArray⟩ } else none
  else if p = 4 then (condL x).map fun (n : Nat) => { e with iff := (n : Int) }
  else if p = 5 then (valR (wordsAns x)).map fun v => { e with val := v }
  else if p = 6 then if x = [63] then some e else none
  else if p = 7 then (prdR (wordsAns x)).map fun v => { e with pred := v }
  else if p = 8 then (edsR (wordsAns x)).bind fun v => if v = [] then none else some { e with eds := v }
  else if p = 9 then (numL 999999999 x).map fun (n : Nat) => { e with num := (n : Int) }
  else (numL 18446744073709551615 x).map fun (n : Nat) => { e with stamp := (n : Int) }
def partsR : List Nat → En → List (List UInt8) → Option (En × List (List UInt8))
  | [], e, w => some (e, w)
  | p :: ps, e, w => if w.length < spanP w p then none else (readP e p (joinW (w.take (spanP w p)))).bind fun f => partsR ps f (w.drop (spanP w p))
def entryO : List (List UInt8) → Option En
  | [] => none
  | x :: w => if kindW x = 0 then none else (partsR (shapeN (kindW x)) (zeroEn (kindW x)) w).bind fun r => if r.2 = [] then some r.1 else none
theorem joinW_nil : joinW [] = [] := rfl
theorem joinW_one (x : List UInt8) : joinW [x] = x := by simp [joinW, Lib.join, List.intercalate]
theorem joinW_two (x y : List UInt8) : joinW [x, y] = x ++ 32 :: y := by simp [joinW, Lib.join, List.intercalate]
theorem words_join {w : List (List UInt8)} (h : ∀ x ∈ w, x ≠ [] ∧ (32 : UInt8) ∉ x) : wordsAns (joinW w) = w := by
  by_cases h0 : w = []
  · subst h0; rfl
  · have hs := split_join w h0 fun x hx => (h x hx).2
    unfold wordsAns joinW
    rw [if_neg, hs]
    intro q
    rw [q] at hs
    have e : splitL ([] : List UInt8) = [[]] := splitL_no rfl
    rw [e] at hs
    exact (h [] (by rw [← hs]; simp)).1 rfl
theorem val_may {w : List (List UInt8)} {v : List Fld} (h : valR w = some v) : mayB v = true := by
  unfold valR at h
  cases hf : fieldsW w with
  | none => rw [hf] at h; cases h
  | some fs =>
    rw [hf] at h
    simp only [Option.bind_some] at h
    split at h
    · rename_i hc
      simp only [Option.some.injEq] at h
      rw [← h, ansF, if_pos hc]
      exact (codeF_zero hc).2.2
    · cases h
theorem eds_may {w : List (List UInt8)} {v : List Ed} (h : edsR w = some v) : mayE v = 0 := by
  unfold edsR at h
  split at h
  · rename_i hc
    simp only [Option.some.injEq] at h
    cases ho : editsW w with
    | none => rw [ho] at hc; exact absurd hc (by decide)
    | some p =>
      rw [ho] at hc h
      have hm : mayE p = 0 := hc
      unfold ansL at h
      simp only at h
      rw [if_pos hm] at h
      rw [← h]; exact hm
  · cases h
theorem prd_may {w : List (List UInt8)} {v : List Tm} (h : prdR w = some v) : mayM v = 0 ∧ sortM v = v := by
  unfold prdR at h
  split at h
  · rename_i hc
    simp only [Option.some.injEq] at h
    cases ho : termsW w with
    | none => rw [ho] at hc; exact absurd hc (by decide)
    | some p =>
      rw [ho] at hc h
      have hm : mayM p = 0 := hc
      obtain ⟨h1, h2⟩ := ansM_again hm
      have hv : ansM p = v := h
      rw [hv] at h1 h2
      refine ⟨h1, ?_⟩
      unfold ansM at h2
      rwa [if_pos h1] at h2
  · cases h
theorem keyR_key {x : List UInt8} {k : ByteArray × ByteArray} (h : keyR x = some k) : keyB k.1 k.2 = true := by
  unfold keyR at h
  split at h
  · cases h
  · simp only at h
    split at h
    · rename_i hk
      simp only [Option.some.injEq] at h
      rw [← h]; exact hk
    · cases h
theorem fieldsW_ask : ∀ {w : List (List UInt8)}, [63] ∈ w → fieldsW w = none
  | [], h => by cases h
  | l :: r, h => by
    rw [fieldsW]
    cases hw : wordO l with
    | none => rfl
    | some nt =>
      obtain ⟨n, t⟩ := nt
      simp only
      rcases List.mem_cons.1 h with h | h
      · rw [← h] at hw
        have hz : wordO [63] = none := by kernel_rfl
        rw [hz] at hw; cases hw
      · rw [fieldsW_ask h]; rfl
theorem valR_no {w : List (List UInt8)} (h : [63] ∈ w) : valR w = none := by
  unfold valR; rw [fieldsW_ask h]; rfl
theorem while_all {w : List (List UInt8)} (h : [63] ∉ w) : w.takeWhile (fun x => decide (x ≠ [63])) = w := by
  induction w with
  | nil => rfl
  | cons x w ih =>
    have hx : x ≠ [63] := fun q => h (by rw [q]; simp)
    rw [List.takeWhile_cons, if_pos (by simpa using hx), ih fun q => h (by simp [q])]
theorem while_len_all {w : List (List UInt8)} : (w.takeWhile fun x => decide (x ≠ [63])).length ≤ w.length := (List.takeWhile_sublist _).length_le
theorem take_while (w : List (List UInt8)) : w.take (w.takeWhile fun x => decide (x ≠ [63])).length = w.takeWhile fun x => decide (x ≠ [63]) := by
  induction w with
  | nil => rfl
  | cons x w ih =>
    rw [List.takeWhile_cons]
    split
    · rw [List.length_cons, List.take_succ_cons, ih]
    · rfl
theorem drop_while (w : List (List UInt8)) : w.drop (w.takeWhile fun x => decide (x ≠ [63])).length = w.dropWhile fun x => decide (x ≠ [63]) := by
  induction w with
  | nil => rfl
  | cons x w ih =>
    rw [List.takeWhile_cons, List.dropWhile_cons]
    split
    · rw [List.length_cons, List.drop_succ_cons, ih]
    · rfl
theorem drop_while_at : ∀ {w : List (List UInt8)}, [63] ∈ w → ∃ r, w.dropWhile (fun x => decide (x ≠ [63])) = [63] :: r
  | [], h => by cases h
  | x :: w, h => by
    rw [List.dropWhile_cons]
    by_cases hx : x = [63]
    · rw [if_neg (by simp [hx]), hx]; exact ⟨w, rfl⟩
    · rw [if_pos (by simp [hx])]
      rcases List.mem_cons.1 h with q | q
      · exact absurd q.symm hx
      · exact drop_while_at q
theorem drop_while_no {w : List (List UInt8)} (h : [63] ∉ w) : w.dropWhile (fun x => decide (x ≠ [63])) = [] := by
  rw [← drop_while, while_all h, List.drop_length]
end Go.Proofs.YtpdccbeeoapplaaGreatDoor

namespace Go.Proofs.YtpdccbeeoapplaaGreatDoor
open Go.RowKit Go.Lib
end Go.Proofs.YtpdccbeeoapplaaGreatDoor

namespace Go.Proofs.YtpdccbeeoapplaaGreatDoor
open Go.RowKit Go.Lib
end Go.Proofs.YtpdccbeeoapplaaGreatDoor

namespace Go.Proofs.YtpdccbeeoapplaaGreatDoor
open Go.RowKit Go.Lib
def partsC (k : Nat) : Array Value := ((shapeN k).map fun (p : Nat) => Value.int .i64 (p : Int)).toArray
set_option maxHeartbeats 4000000 in
theorem shape_yes (k : Nat) (w : World) (h1 : 1 ≤ k) (h2 : k ≤ 12) :
    Calls Tryz.prog 35 #[.int .i64 k] w fun e w' => e = .returned (.tuple #[.string ⟨(nameN k).toArray⟩, .slice (some ⟨w.heap.size, 0, none⟩) (shapeN k).length (shapeN k).length]) ∧ w' = w.alloc (.cells (partsC k) 73) := by
  have : k = 1 ∨ k = 2 ∨ k = 3 ∨ k = 4 ∨ k = 5 ∨ k = 6 ∨ k = 7 ∨ k = 8 ∨ k = 9 ∨ k = 10 ∨ k = 11 ∨ k = 12 := by omega
  rcases this with rfl | rfl | rfl | rfl | rfl | rfl | rfl | rfl | rfl | rfl | rfl | rfl
  all_goals
    go_enter Tryz.func35, Tryz.ntmps35
    go_wp2_with fail
    go_ret2
    exact ⟨rfl, rfl⟩
set_option maxHeartbeats 4000000 in
theorem shape_no (k : Int) (w : World) (h : k < 1 ∨ 12 < k) :
    Calls Tryz.prog 35 #[.int .i64 k] w fun e w' => e = .returned (.tuple #[.string ⟨#[]⟩, .slice none 0 0]) ∧ w' = w := by
  have n1 : (k == 1) = false := beq_eq_false_iff_ne.2 (by omega)
  have n2 : (k == 2) = false := beq_eq_false_iff_ne.2 (by omega)
  have n3 : (k == 3) = false := beq_eq_false_iff_ne.2 (by omega)
  have n4 : (k == 4) = false := beq_eq_false_iff_ne.2 (by omega)
  have n5 : (k == 5) = false := beq_eq_false_iff_ne.2 (by omega)
  have n6 : (k == 6) = false := beq_eq_false_iff_ne.2 (by omega)
  have n7 : (k == 7) = false := beq_eq_false_iff_ne.2 (by omega)
  have n8 : (k == 8) = false := beq_eq_false_iff_ne.2 (by omega)
  have n9 : (k == 9) = false := beq_eq_false_iff_ne.2 (by omega)
  have n10 : (k == 10) = false := beq_eq_false_iff_ne.2 (by omega)
  have n11 : (k == 11) = false := beq_eq_false_iff_ne.2 (by omega)
  have n12 : (k == 12) = false := beq_eq_false_iff_ne.2 (by omega)
  clear h
  go_enter Tryz.func35, Tryz.ntmps35
  go_wp2_with fail
  go_ret2
  exact ⟨rfl, rfl⟩
theorem kindW_at {s : ByteArray} {k : Nat} (h1 : 1 ≤ k) (h2 : k ≤ 12) (h : nameN k = s.data.toList) : kindW s.data.toList = k := by
  rw [← h]; exact kind_name k h1 h2
theorem kindW_no {l : List UInt8} (h : ∀ k, 1 ≤ k → k ≤ 12 → nameN k ≠ l) : kindW l = 0 := by
  unfold kindW
  split
  · rfl
  · rename_i h0
    cases hf : (List.range 13).find? fun k => decide (nameN k = l) with
    | none => rfl
    | some k =>
      exfalso
      have hm := List.mem_of_find?_eq_some hf
      have hp := List.find?_some hf
      simp only [decide_eq_true_eq] at hp
      simp only [List.mem_range] at hm
      by_cases hk : k = 0
      · subst hk; exact h0 hp.symm
      · exact h k (by omega) (by omega) hp
theorem kindW_le (l : List UInt8) : kindW l ≤ 12 := by
  unfold kindW
  split
  · omega
  · cases hf : (List.range 13).find? fun k => decide (nameN k = l) with
    | none => simp
    | some k =>
      have hm := List.mem_of_find?_eq_some hf
      simp only [List.mem_range] at hm
      simp only [Option.getD_some]; omega
set_option maxHeartbeats 2000000 in
theorem kind_any (s : ByteArray) (w : World) :
    Calls Tryz.prog 53 #[.string s] w fun e w' => e = .returned (.int .i64 (kindW s.data.toList)) ∧ Below w.heap.size w w' := by
  have HB0 := hid (Below.refl w.heap.size w)
  have HN0 : Hid (∀ j : Nat, 1 ≤ j → j < 1 → nameN j ≠ s.data.toList) := hid fun j h1 h2 => by omega
  go_enter Tryz.func53, Tryz.ntmps53
  go_wp2_with fail
  go_loopg [3] 14 (fun g v ws => ∃ k : Nat, v = .int .i64 k ∧ 1 ≤ k ∧ k ≤ 13 ∧ 13 - k ≤ g ∧ Hid (∀ j : Nat, 1 ≤ j → j < k → nameN j ≠ s.data.toList) ∧ Hid (Below w.heap.size w ws))
  case atStart => exact ⟨1, rfl, by omega, by omega, by omega, HN0, HB0⟩
  case round =>
    obtain ⟨k, rfl, hk1, hk2, hkg, HN, HB⟩ := hrel
    by_cases hlt : k ≤ 12
    · have hz : (k : Int) ≤ 12 := by omega
      by_cases he : nameN k = s.data.toList
      · have hq : (nameN k == s.toList) = true := by rw [he, toList_data]; exact beq_self_eq_true _
        have HE := hid he
        clear he
        go_wp2_with (go_at_call 35; refine (shape_yes k _ hk1 hlt).mono ?_; rintro e w1 ⟨rfl, rfl⟩)
        go_ret
        exact ⟨by rw [kindW_at hk1 hlt HE.out]; rfl, HB.out.alloc HB.out.size _⟩
      · have hq : (nameN k == s.toList) = false := beq_eq_false_iff_ne.2 fun q => he (by rw [q, toList_data])
        have HE := hid he
        clear he
        go_wp2_with (go_at_call 35; refine (shape_yes k _ hk1 hlt).mono ?_; rintro e w1 ⟨rfl, rfl⟩)
        go_roundg (13 - (k + 1))
        case measure => omega
        refine ⟨k + 1, by go_num, by omega, by omega, by omega, hid fun j h1 h2 => ?_, hid (HB.out.alloc HB.out.size _)⟩
        by_cases hj : j = k
        · rw [hj]; exact HE.out
        · exact HN.out j h1 (by omega)
    · have hz : ¬ (k : Int) ≤ 12 := by omega
      go_wp2_with fail
      go_ret
      exact ⟨by rw [kindW_no fun j h1 h2 => HN.out j h1 (by omega)]; rfl, HB.out⟩
end Go.Proofs.YtpdccbeeoapplaaGreatDoor
