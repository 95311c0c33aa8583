/-
  The contracts of the reader's value, and of Decode.
-/
import Derived.Test.YtmjchokacmbkoabDoorDec1
import Derived.Test.YtmjchokacmbkoabDoorMay
namespace Go.Proofs.YtmjchokacmbkoabDoor
open Go.RowKit

theorem Tryd.infoFld : (Tryd.prog.info? 30).map (fun i => (i.zero, i.size, i.bytes)) = some (some (.agg #[.string ⟨#[]⟩, .slice none 0 0]), 2, 40) := by kernel_rfl

def cellsX (d : List Fx) : List Value := d.flatMap encX
theorem cellsX_append (d e : List Fx) : cellsX (d ++ e) = cellsX d ++ cellsX e := List.flatMap_append
theorem cellsX_len (d : List Fx) : (cellsX d).length = d.length * 2 := by
  induction d with
  | nil => rfl
  | cons x d ih => simp [cellsX, encX] at ih ⊢; omega
theorem cellsX_get (d : List Fx) (i : Nat) (h : i < d.length) : (cellsX d)[i * 2]? = some (.string d[i].name) ∧ (cellsX d)[i * 2 + 1]? = some d[i].sl := by
  induction d generalizing i with
  | nil => simp at h
  | cons x d ih =>
    have e : cellsX (x :: d) = .string x.name :: x.sl :: cellsX d := rfl
    rw [e]
    cases i with
    | zero => simp
    | succ i =>
      have := ih i (by simpa using h)
      rw [show (i + 1) * 2 = i * 2 + 1 + 1 by omega]
      simpa using this

/-- v owns the fields d, and each of them its texts, in rows at or behind n0. -/
def OwnXs (n0 : Nat) (w : World) (v : Value) (d : List Fx) : Prop := w.ownsRow n0 30 2 v d.length (cellsX d) ∧ ∀ x ∈ d, OwnT n0 w x.sl x.txt

theorem OwnT.txtAt {n0 : Nat} {w : World} {p : Option Addr} {cap : Nat} {ts : List ByteArray} (h : OwnT n0 w (.slice p ts.length cap) ts) : TxtAt w p ts := by
  rcases h.2 with ⟨_, h0⟩ | ⟨g, c, cur, hv, _, hg, _, _, hsz, htk⟩
  · exact Or.inl (List.length_eq_zero_iff.1 h0)
  · right
    injection hv with hp
    refine ⟨g, 0, hp, fun i hi => ?_⟩
    rw [Nat.zero_add, cell_of_row w g i cur _ _ hg]
    have : (ts.map Value.string)[i]? = cur.toList[i]? := by
      rw [← htk, List.getElem?_take, if_pos (by omega)]
    rw [← Array.getElem?_toList, ← this]
    simp [hi]

theorem OwnXs.is {n0 : Nat} {w : World} {v : Value} {d : List Fx} (h : OwnXs n0 w v d) : IsXs w v d := by
  obtain ⟨h1, h2⟩ := h
  rcases h1.2 with ⟨rfl, h0⟩ | ⟨g, c, cur, rfl, _, hg, _, _, hsz, htk⟩
  · obtain rfl := List.length_eq_zero_iff.1 h0
    exact ⟨none, 0, rfl, Or.inl rfl, fun x hx => by simp at hx⟩
  · refine ⟨_, c, rfl, Or.inr ⟨g, 0, rfl, fun i hi => ?_⟩, fun x hx => OwnT.txtAt (h2 x hx)⟩
    obtain ⟨c0, c1⟩ := cellsX_get d i hi
    have e : ∀ j, j < d.length * 2 → (cellsX d)[j]? = cur[j]? := fun j hj => by
      rw [← htk, List.getElem?_take, if_pos hj, Array.getElem?_toList]
    rw [Nat.zero_add, cell_of_row w g _ cur _ _ hg, cell_of_row w g _ cur _ _ hg, ← e _ (by omega), ← e _ (by omega)]
    exact ⟨c0, c1⟩

theorem OwnXs.on {n0 : Nat} {w w' : World} {v : Value} {d : List Fx} (h : OwnXs n0 w v d) (hb : Below w.heap.size w w') : OwnXs n0 w' v d := ⟨own_on h.1 hb, fun x hx => (h.2 x hx).on hb⟩

theorem OwnXs.far {n0 R : Nat} {w w' : World} {v : Value} {d : List Fx} (h : OwnXs n0 w v d) (hg : w.grownBy w' (some R)) (hR : R < n0) : OwnXs n0 w' v d := by
  refine ⟨World.ownsRow.kept h.1 hg ?_, fun x hx => (h.2 x hx).grown hg hR⟩
  rcases hv : v.ownBlock with _ | k
  · exact Or.inl rfl
  · right
    intro e
    have := (World.ownsRow.lt h.1 k hv).1
    simp at e; omega

/-- Texts lie in no row of fields. -/
theorem OwnT.rowX {n0 : Nat} {w w' : World} {sv v : Value} {ts : List ByteArray} {n m : Nat} {xs : List Value} {m0 : Nat} (h : OwnT n0 w sv ts) (hv : w.ownsRow m0 30 n v m xs) (hg : w.grownBy w' v.ownBlock) : OwnT n0 w' sv ts := by
  refine World.ownsRow.kept h hg ?_
  rcases h.2 with ⟨rfl, _⟩ | ⟨g, c, cur, rfl, _, hgb, _⟩
  · exact Or.inl rfl
  · right
    intro e
    rcases hv.2 with ⟨rfl, _⟩ | ⟨g', c', cur', rfl, _, hgb', _⟩
    · cases e
    · have : g = g' := by simpa [Value.ownBlock] using e
      subst this
      rw [hgb] at hgb'
      injection hgb' with hgb'
      injection hgb' with _ ht
      exact absurd ht (by decide)

theorem fieldsS_snoc (n : Nat) (s : Rst) : fieldsS (n + 1) s = ((fieldsS n s).1 ++ [(fieldS (fieldsS n s).2).1], (fieldS (fieldsS n s).2).2) := by
  induction n generalizing s with
  | zero => rfl
  | succ n ih =>
    rw [fieldsS, ih]
    simp [fieldsS]

theorem own_slice {n0 : Nat} {w : World} {sv : Value} {ts : List ByteArray} (h : OwnT n0 w sv ts) : ∃ p cap, sv = .slice p ts.length cap := by
  rcases h.2 with ⟨hv, h0⟩ | ⟨g, cap, cur, hv, _⟩
  · exact ⟨none, 0, by rw [hv, h0]⟩
  · exact ⟨_, _, hv⟩

theorem news_x (w : World) (x : Fx) : ∀ j u, (cellsX [x])[j]? = some u → (w.alloc (.cells #[.string x.name, .slice x.p x.txt.length x.cap] 30)).cell? ((⟨w.heap.size, 0, none⟩ : Addr).add j) = some u := by
  intro j u hj
  have e : cellsX [x] = [.string x.name, .slice x.p x.txt.length x.cap] := rfl
  rw [e] at hj
  match j, hj with
  | 0, hj => simp at hj; subst hj; simp [Addr.add]
  | 1, hj => simp at hj; subst hj; rw [addr_add]; simp

theorem cellsX_one (d : List Fx) : ∀ u ∈ cellsX d, u.oneCell' = true := by
  intro u hu
  obtain ⟨x, _, hx⟩ := List.mem_flatMap.1 hu
  simp [encX] at hx
  rcases hx with rfl | rfl <;> rfl

/-- One field more behind a row of fields. -/
theorem OwnXs.put {n0 : Nat} {w w' : World} {v v' : Value} {d : List Fx} {x : Fx} (h : OwnXs n0 w v d) (hx : OwnT n0 w x.sl x.txt) (hown : w'.ownsRow n0 30 2 v' (d.length + 1) (cellsX d ++ cellsX [x])) (hg : w.grownBy w' v.ownBlock) : OwnXs n0 w' v' (d ++ [x]) := by
  refine ⟨?_, fun y hy => ?_⟩
  · rw [cellsX_append, List.length_append]; exact hown
  · rw [List.mem_append, List.mem_singleton] at hy
    rcases hy with hy | rfl
    · exact (h.2 y hy).rowX h.1 hg
    · exact hx.rowX h.1 hg

def ValueSt (w : World) (R : Nat) (s1 : Rst) (i : Nat) (v : Value) (wr : World) : Prop :=
  ∃ d : List Fx, OwnXs w.heap.size wr v d ∧ d.map Fx.fld = (fieldsS i s1).1 ∧ d.length = i ∧ Rd wr R (fieldsS i s1).2 ∧ w.grownBy wr (some R)

set_option maxHeartbeats 4000000 in
set_option maxRecDepth 100000 in
theorem value_rd (R : Nat) (s : Rst) (w : World) (h : Rd w R s) :
    Calls Tryd.prog 35 #[.pointer (some ⟨R, 0, none⟩)] w fun e w' => ∃ v, e = .returned v ∧ ∃ d, OwnXs w.heap.size w' v d ∧ d.map Fx.fld = (valueS s).1 ∧ d.length ≤ 255 ∧ Rd w' R (valueS s).2 ∧ w.grownBy w' (some R) := by
  obtain ⟨i0, hi, hz0, hz1, hz2⟩ := info_parts Tryd.infoFld
  have HI := hid hi
  have hRw := h.lt
  have HC1 := hid (count_any R s w h)
  obtain ⟨n, s1, hcs⟩ : ∃ n s1, countS s = (n, s1) := ⟨_, _, rfl⟩
  have hn255 : n ≤ 255 := by have := countS_le s; rw [hcs] at this; exact this
  have hvs : valueS s = fieldsS n s1 := by unfold valueS; rw [hcs]
  rw [hvs]
  rw [hcs] at HC1
  simp only at HC1
  clear h hcs hvs hi
  go_enter Tryd.func35, Tryd.ntmps35
  go_wp2_with (first | (go_at_call 53; refine HC1.out.mono ?_; rintro e w1 ⟨rfl, hrd1, hg1⟩))
  have ST0 : Hid (ValueSt w R s1 0 (.slice none 0 0) w1) := ⟨[], ⟨World.ownsRow_nil _ _ _ _, fun x hx => by simp at hx⟩, rfl, rfl, hrd1, hg1⟩
  clear hrd1 hg1
  go_loopg [3, 6] n (fun g v3 vi wr => ∃ i : Nat, vi = .int .i64 i ∧ i ≤ n ∧ n - i ≤ g ∧ ValueSt w R s1 i v3 wr)
  case atStart => exact ⟨0, rfl, by omega, by omega, ST0.out⟩
  case round =>
    obtain ⟨i, rfl, hi, hgk, d, hox, hmap, hlen, hrd, hgr⟩ := hrel
    by_cases hlt : i < n
    · have hltz : (i : Int) < (n : Int) := by omega
      have HFD := hid (field_rd R _ wr hrd)
      have HOX := hid hox
      have HGR := hid hgr
      have HSN := hid (fieldsS_snoc i s1)
      have HMAP := hid hmap
      have HLEN := hid hlen
      have hwr := hgr.size
      clear hox hgr hmap hlen hrd
      go_wp2_with (first | (go_at_call 54; refine HFD.out.mono ?_; rintro e w2 ⟨sv, rfl, hot, hrd2, hg2⟩; obtain ⟨p, cap, rfl⟩ := own_slice hot) | (at_builtin; refine wpList_append_own _ rfl _ _ 22 rfl w.heap.size 30 i0 (.agg #[.string ⟨#[]⟩, .slice none 0 0]) 2 40 Tryd.underlying22 HI.out hz0 hz1 hz2 rfl (by decide) _ _ _ rfl (World.ownsRow.alloc (HOX.out.far hg2 hRw).1 _) ⟨w2.heap.size, 0, none⟩ 1 1 (cellsX [⟨(fieldS (fieldsS i s1).2).1.1, p, cap, (fieldS (fieldsS i s1).2).1.2⟩]) rfl rfl ?c1 ?c2 ?c3 ?c4 ?c5 ?_))
      case c1 => exact news_x w2 _
      case c2 => exact cellsX_one _
      case c3 => rw [HLEN.out]; unfold maxLen; omega
      case c4 => rw [HLEN.out]; omega
      case c5 => have := hg2.size; simp; omega
      intro v3 w3 hown3 hg3 _
      have hxo : OwnXs w.heap.size (w2.alloc (.cells #[.string (fieldS (fieldsS i s1).2).1.1, .slice p (fieldS (fieldsS i s1).2).1.2.length cap] 30)) u3 d := (HOX.out.far hg2 hRw).on ((Below.refl _ _).alloc (Nat.le_refl _) _)
      have hox3 := hxo.put (x := ⟨(fieldS (fieldsS i s1).2).1.1, p, cap, (fieldS (fieldsS i s1).2).1.2⟩) (own_weak (OwnT.on hot ((Below.refl _ _).alloc (Nat.le_refl _) _)) (by omega)) hown3 hg3
      have hb3 : Below w.heap.size w2 w3 := ((Below.refl _ w2).alloc (Nat.le_trans hwr hg2.size) _).grown hg3 (by have := hg2.size; simp; omega) (fun k hk => (World.ownsRow.lt hxo.1 k hk).1)
      have HST : Hid (ValueSt w R s1 (i + 1) v3 w3) := by
        refine ⟨_, hox3, ?_, by rw [List.length_append, HLEN.out]; rfl, ?_, ?_⟩
        · rw [HSN.out, List.map_append, HMAP.out]; rfl
        · rw [HSN.out]; exact hrd2.far (hb3.mono (by omega))
        · exact ⟨hb3.os.trans (hg2.os.trans HGR.out.os), hb3.tape.trans (hg2.tape.trans HGR.out.tape), hb3.output.trans (hg2.output.trans HGR.out.output), Nat.le_trans hwr (Nat.le_trans hg2.size hb3.size),
            fun k hk hne => (hb3.block k hk).trans ((hg2.block k (Nat.lt_of_lt_of_le hk hwr) hne).trans (HGR.out.block k hk hne))⟩
      clear hown3 hg3 hxo hox3 hb3 hot hrd2 hg2
      go_wp2_with fail
      go_roundg (n - (i + 1))
      case measure => omega
      exact ⟨i + 1, by go_num, by omega, by omega, HST.out⟩
    · have hltz : ¬ (i : Int) < (n : Int) := by omega
      obtain rfl : i = n := by omega
      have HP : Hid (∃ d, OwnXs w.heap.size wr u3 d ∧ d.map Fx.fld = (fieldsS i s1).1 ∧ d.length ≤ 255 ∧ Rd wr R (fieldsS i s1).2 ∧ w.grownBy wr (some R)) := ⟨d, hox, hmap, by omega, hrd, hgr⟩
      clear hox hmap hlen hrd hgr
      go_wp2_with fail
      go_ret
      exact ⟨_, rfl, HP.out⟩

def decodeO (l : List UInt8) : Option (List Fld) := if (valueS (l, false)).2.2 = true ∨ 0 < (valueS (l, false)).2.1.length ∨ mayB (valueS (l, false)).1 = false then none else some (valueS (l, false)).1

def DecPost (w : World) (l : List UInt8) (e : Ending) (w' : World) : Prop :=
  (decodeO l = none ∧ e = .returned (.tuple #[.slice none 0 0, .int .i64 4]) ∨ ∃ fs, decodeO l = some fs ∧ ∃ u d, e = .returned (.tuple #[u, .int .i64 0]) ∧ OwnXs w.heap.size w' u d ∧ d.map Fx.fld = fs) ∧ Below w.heap.size w w'

/-- What a reader gives, a machine can hold. -/
theorem takeS_small (n : Nat) (s : Rst) : (takeS n s).1.length ≤ n := by
  unfold takeS
  split
  · simp
  · simp; omega
theorem textS_small (s : Rst) : (textS s).1.size ≤ 255 := by
  have h1 := takeS_small (countS s).1 (countS s).2
  have h2 := countS_le s
  show (takeS (countS s).1 (countS s).2).1.toArray.size ≤ 255
  rw [List.size_toArray]; omega
theorem textsS_small (n : Nat) (s : Rst) : ∀ t ∈ (textsS n s).1, t.size ≤ 255 := by
  induction n generalizing s with
  | zero => intro t ht; simp [textsS] at ht
  | succ n ih =>
    intro t ht
    rw [textsS, List.mem_cons] at ht
    rcases ht with rfl | ht
    · exact textS_small s
    · exact ih _ t ht
theorem fieldS_small (s : Rst) : FitF (fieldS s).1 := by
  refine ⟨?_, ?_, fun t ht => ?_⟩
  · have := textS_small s; show (textS s).1.size ≤ maxLen; unfold maxLen; omega
  · show (textsS _ _).1.length ≤ maxLen
    rw [textsS_len]; have := countS_le (textS s).2; unfold maxLen; omega
  · have := textsS_small _ _ t ht; unfold maxLen; omega
theorem fieldsS_small (n : Nat) (s : Rst) : ∀ f ∈ (fieldsS n s).1, FitF f := by
  induction n generalizing s with
  | zero => intro t ht; simp [fieldsS] at ht
  | succ n ih =>
    intro t ht
    rw [fieldsS, List.mem_cons] at ht
    rcases ht with rfl | ht
    · exact fieldS_small s
    · exact ih _ t ht

theorem fitX_of {d : List Fx} {fs : List Fld} (h : d.map Fx.fld = fs) (hl : d.length ≤ maxLen) (hf : ∀ f ∈ fs, FitF f) : FitX d :=
  ⟨hl, fun x hx => hf _ (by rw [← h]; exact List.mem_map.2 ⟨x, hx, rfl⟩)⟩

set_option maxHeartbeats 4000000 in
set_option maxRecDepth 100000 in
theorem decode_any (v : Value) (l : List UInt8) (w : World) (hv : RestAt w.heap.size w v l) :
    Calls Tryd.prog 19 #[v] w fun e w' => DecPost w l e w' := by
  have hrd : Rd (w.alloc (.cells #[v, .bool false] 56)) w.heap.size (l, false) := ⟨v, heap_alloc_new w _, by
    have := (Below.refl w.heap.size w).alloc (Nat.le_refl _) (.cells #[v, .bool false] 56)
    exact hv.kept ⟨this.os, this.tape, this.output, this.size, fun k hk _ => this.block k hk⟩⟩
  have HV := hid (value_rd w.heap.size (l, false) _ hrd)
  have HSM := hid (fieldsS_small (countS (l, false)).1 (countS (l, false)).2)
  have hvs : fieldsS (countS (l, false)).1 (countS (l, false)).2 = valueS (l, false) := rfl
  rw [hvs] at HSM
  have HDO : Hid (decodeO l = if (valueS (l, false)).2.2 = true ∨ 0 < (valueS (l, false)).2.1.length ∨ mayB (valueS (l, false)).1 = false then none else some (valueS (l, false)).1) := rfl
  obtain ⟨fs, rest, sh, hvv⟩ : ∃ fs rest sh, valueS (l, false) = (fs, rest, sh) := ⟨_, _, _, rfl⟩
  rw [hvv] at HV HSM HDO
  simp only at HV HSM HDO
  obtain ⟨p, cap, rfl, _, _, _⟩ := hv
  clear hrd hvs hvv
  cases sh with
  | true =>
    have HN : Hid (decodeO l = none) := by show _ = _; rw [HDO.out, if_pos (Or.inl rfl)]
    go_enter Tryd.func19, Tryd.ntmps19
    go_wp2_with (first | (go_at_call 35; refine HV.out.mono ?_; rintro e w1 ⟨u, rfl, d, hox, hmap, hlen, ⟨rv, hbk, hra⟩, hg⟩; have c1 : w1.cell? ⟨w.heap.size, 1, none⟩ = some (.bool true) := (by rw [Lib.cell_of_heap hbk]; rfl)))
    go_ret2
    refine ⟨Or.inl ⟨HN.out, rfl⟩, ?_⟩
    have hb0 := (Below.refl w.heap.size w).alloc (Nat.le_refl _) (.cells #[.slice p l.length cap, .bool false] 56)
    exact hb0.grown hg (by simp) (fun k hk => by cases hk; exact Nat.le_refl _)
  | false =>
    have HG : Hid (∀ w1 : World, (w.alloc (.cells #[.slice p l.length cap, .bool false] 56)).grownBy w1 (some w.heap.size) → Below w.heap.size w w1) := fun w1 hg =>
      ((Below.refl w.heap.size w).alloc (Nat.le_refl _) (.cells #[.slice p l.length cap, .bool false] 56)).grown hg (by simp) (fun k hk => by cases hk; exact Nat.le_refl _)
    by_cases hr : 0 < rest.length
    · have hrz : (0 : Int) < (rest.length : Int) := by omega
      have HN : Hid (decodeO l = none) := by show _ = _; rw [HDO.out, if_pos (Or.inr (Or.inl hr))]
      go_enter Tryd.func19, Tryd.ntmps19
      go_wp2_with (first | (go_at_call 35; refine HV.out.mono ?_; rintro e w1 ⟨u, rfl, d, hox, hmap, hlen, ⟨rv, hbk, rp, rcap, rfl, _⟩, hg⟩; have c0 : w1.cell? ⟨w.heap.size, 0, none⟩ = some (.slice rp rest.length rcap) := (by rw [Lib.cell_of_heap hbk]; rfl); have c1 : w1.cell? ⟨w.heap.size, 1, none⟩ = some (.bool false) := (by rw [Lib.cell_of_heap hbk]; rfl)))
      go_ret2
      exact ⟨Or.inl ⟨HN.out, rfl⟩, HG.out _ hg⟩
    · have hrz : ¬ (0 : Int) < (rest.length : Int) := by omega
      cases hm : mayB fs with
      | false =>
        have HN : Hid (decodeO l = none) := by show _ = _; rw [HDO.out, if_pos (Or.inr (Or.inr hm))]
        have HM := hid hm
        go_enter Tryd.func19, Tryd.ntmps19
        go_wp2_with (first | (go_at_call 35; refine HV.out.mono ?_; rintro e w1 ⟨u, rfl, d, hox, hmap, hlen, ⟨rv, hbk, rp, rcap, rfl, _⟩, hg⟩; have c0 : w1.cell? ⟨w.heap.size, 0, none⟩ = some (.slice rp rest.length rcap) := (by rw [Lib.cell_of_heap hbk]; rfl); have c1 : w1.cell? ⟨w.heap.size, 1, none⟩ = some (.bool false) := (by rw [Lib.cell_of_heap hbk]; rfl); have hmy := hid (may_any u d w1 hox.is (fitX_of hmap (by unfold maxLen; omega) HSM.out)); rw [hmap, HM.out] at hmy) | (go_at_call 16; refine hmy.out.mono ?_; rintro e w2 ⟨rfl, hgm⟩))
        go_ret2
        exact ⟨Or.inl ⟨HN.out, rfl⟩, (HG.out _ hg).trans (hgm.below.mono (HG.out _ hg).size)⟩
      | true =>
        have HN : Hid (decodeO l = some fs) := by
          show _ = _
          rw [HDO.out, if_neg]
          rintro (h | h | h)
          · cases h
          · exact hr h
          · rw [hm] at h; cases h
        have HM := hid hm
        go_enter Tryd.func19, Tryd.ntmps19
        go_wp2_with (first | (go_at_call 35; refine HV.out.mono ?_; rintro e w1 ⟨u, rfl, d, hox, hmap, hlen, ⟨rv, hbk, rp, rcap, rfl, _⟩, hg⟩; have c0 : w1.cell? ⟨w.heap.size, 0, none⟩ = some (.slice rp rest.length rcap) := (by rw [Lib.cell_of_heap hbk]; rfl); have c1 : w1.cell? ⟨w.heap.size, 1, none⟩ = some (.bool false) := (by rw [Lib.cell_of_heap hbk]; rfl); have hmy := hid (may_any u d w1 hox.is (fitX_of hmap (by unfold maxLen; omega) HSM.out)); rw [hmap, HM.out] at hmy; have HOX := hid hox; clear hox) | (go_at_call 16; refine hmy.out.mono ?_; rintro e w2 ⟨rfl, hgm⟩))
        go_ret2
        refine ⟨Or.inr ⟨fs, HN.out, u, d, rfl, ?_, hmap⟩, (HG.out _ hg).trans (hgm.below.mono (HG.out _ hg).size)⟩
        have := HOX.out.on hgm.below
        exact ⟨own_weak this.1 (by simp), fun x hx => own_weak (this.2 x hx) (by simp)⟩

end Go.Proofs.YtmjchokacmbkoabDoor
