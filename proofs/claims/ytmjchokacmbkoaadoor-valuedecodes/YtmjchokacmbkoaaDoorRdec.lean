/-
  The contracts of the reference's take and Decode.
-/
import Derived.Test.YtmjchokacmbkoaaDoorRdo
import Derived.Test.YtmjchokacmbkoaaDoorRmay
import Derived.Test.YtmjchokacmbkoaaDoorWrd
import Derived.RangeFuncBox
namespace Go.Proofs.YtmjchokacmbkoaaDoor
open Go.RowKit

theorem drop_cons {l : List UInt8} {a : Nat} (h : a < l.length) : l.drop a = l[a] :: l.drop (a + 1) := List.drop_eq_getElem_cons h

def RtPost (w : World) (l : List UInt8) (a : Nat) (e : Ending) (w' : World) : Prop :=
  w' = w ∧ ((textO (l.drop a) = none ∧ e = .returned (.tuple #[.string ⟨#[]⟩, .int .i64 (-1)])) ∨
    ∃ t k, textO (l.drop a) = some (t, l.drop k) ∧ k ≤ l.length ∧ e = .returned (.tuple #[.string t, .int .i64 (k : Nat)]))

set_option maxHeartbeats 2000000 in
set_option maxRecDepth 100000 in
theorem rtake_any (R : Nat) (v : Value) (l : List UInt8) (a : Nat) (w : World) (hv : RestAt R w v l) (ha : a ≤ l.length) :
    Calls Tryd.prog 40 #[v, .int .i64 (a : Nat)] w fun e w' => RtPost w l a e w' := by
  have hv' := hv
  obtain ⟨p, cap, rfl, hc1, hc2, hx⟩ := hv
  unfold maxLen at hc2
  have hneg : decide ((a : Int) < 0) = false := decide_eq_false (by omega)
  by_cases hlt : a < l.length
  · obtain ⟨b, off, rfl, hbR, hcell⟩ : ∃ b off, p = some ⟨b, off, none⟩ ∧ b < R ∧ ∀ i, (h : i < l.length) → w.cell? ⟨b, off + i, none⟩ = some (.int .u8 l[i].toNat) := by
      rcases hx with h | h
      · rw [h] at hlt; simp at hlt
      · exact h
    have hge : decide ((l.length : Int) ≤ (a : Int)) = false := decide_eq_false (by omega)
    have c0 := hcell a hlt
    have hdr := drop_cons hlt
    obtain ⟨c, hc⟩ : ∃ c, l[a] = c := ⟨_, rfl⟩
    rw [hc] at c0 hdr
    have HDR := hid hdr
    have HV := hid hv'
    have hclt := c.toNat_lt
    have i1 : (0 : Int) ≤ (a : Int) := by omega
    have i2 : (a : Int) < (l.length : Int) := by omega
    have HW : Hid (wrap64 (c.toNat : Int) = (c.toNat : Int)) := by show _ = _; unfold wrap64; omega
    clear hv' hx hcell hdr hc
    by_cases hbig : l.length - a - 1 < c.toNat
    · have HN : Hid (textO (l.drop a) = none) := by
        show _ = _
        rw [HDR.out, textO_cons, if_pos (by rw [List.length_drop]; omega)]
      have hbz : decide ((l.length : Int) - (a : Int) - 1 < (c.toNat : Int)) = true := decide_eq_true (by omega)
      go_enter Tryd.func40, Tryd.ntmps40
      go_wp2_with fail
      go_ret2
      exact ⟨rfl, Or.inl ⟨HN.out, rfl⟩⟩
    · have HN : Hid (textO (l.drop a) = some (⟨((l.drop (a + 1)).take c.toNat).toArray⟩, l.drop (a + 1 + c.toNat))) := by
        show _ = _
        rw [HDR.out, textO_cons, if_neg (by rw [List.length_drop]; omega), List.drop_drop]
      have hbz : decide ((l.length : Int) - (a : Int) - 1 < (c.toNat : Int)) = false := decide_eq_false (by omega)
      have j1 : (0 : Int) ≤ (a : Int) + 1 := by omega
      have j2 : (a : Int) + 1 ≤ (a : Int) + 1 + (c.toNat : Int) := by omega
      have j3 : (a : Int) + 1 + (c.toNat : Int) ≤ (cap : Int) := by omega
      have hdl : (l.drop (a + 1)).length = l.length - (a + 1) := List.length_drop
      have hk : ((a + 1 + c.toNat : Nat) : Int) = (a : Int) + 1 + (c.toNat : Int) := by omega
      have HK := hid hk
      clear hk
      by_cases hcap : cap = a + 1
      · subst hcap
        have hr0 := restAt_drop HV.out (a + 1) (by omega) (some ⟨b, off, none⟩) (by rw [if_pos rfl])
        rw [Nat.sub_self, ← hdl] at hr0
        have kc := conv_any (restAt_take hr0 c.toNat (by omega))
        clear hr0 hdl
        go_enter Tryd.func40, Tryd.ntmps40
        go_wp2_with fail
        go_ret2
        exact ⟨rfl, Or.inr ⟨_, _, HN.out, by omega, by rw [HK.out] <;> rfl⟩⟩
      · have hr0 := restAt_drop HV.out (a + 1) (by omega) (some ⟨b, off + (a + 1), none⟩) (by rw [if_neg hcap, Option.map_some, addr_add])
        rw [← hdl] at hr0
        have kc := conv_any (restAt_take hr0 c.toNat (by omega))
        clear hr0 hdl
        go_enter Tryd.func40, Tryd.ntmps40
        go_wp2_with fail
        go_ret2
        exact ⟨rfl, Or.inr ⟨_, _, HN.out, by omega, by rw [HK.out] <;> rfl⟩⟩
  · obtain rfl : a = l.length := by omega
    have HN : Hid (textO (l.drop l.length) = none) := by
      show _ = _
      rw [List.drop_length]; rfl
    clear hv' hx
    go_enter Tryd.func40, Tryd.ntmps40
    go_wp2_with fail
    go_ret2
    exact ⟨rfl, Or.inl ⟨HN.out, rfl⟩⟩

theorem drop_inj {l : List UInt8} {j k : Nat} (hj : j ≤ l.length) (hk : k ≤ l.length) (h : l.drop j = l.drop k) : j = k := by
  have := congrArg List.length h
  simp at this
  omega

theorem rtake_none (R : Nat) (v : Value) (l : List UInt8) (a : Nat) (w : World) (hv : RestAt R w v l) (ha : a ≤ l.length) (h : textO (l.drop a) = none) :
    Calls Tryd.prog 40 #[v, .int .i64 (a : Nat)] w fun e w' => e = .returned (.tuple #[.string ⟨#[]⟩, .int .i64 (-1)]) ∧ w' = w := by
  refine (rtake_any R v l a w hv ha).mono ?_
  rintro e w' ⟨rfl, ⟨_, he⟩ | ⟨t, k, h', _⟩⟩
  · exact ⟨he, rfl⟩
  · rw [h] at h'; cases h'

theorem rtake_some (R : Nat) (v : Value) (l : List UInt8) (a k : Nat) (t : ByteArray) (w : World) (hv : RestAt R w v l) (ha : a ≤ l.length) (h : textO (l.drop a) = some (t, l.drop k)) (hk : k ≤ l.length) :
    Calls Tryd.prog 40 #[v, .int .i64 (a : Nat)] w fun e w' => e = .returned (.tuple #[.string t, .int .i64 (k : Nat)]) ∧ w' = w := by
  refine (rtake_any R v l a w hv ha).mono ?_
  rintro e w' ⟨rfl, ⟨h', _⟩ | ⟨t', k', h', hk', he⟩⟩
  · rw [h] at h'; cases h'
  · rw [h] at h'
    simp only [Option.some.injEq, Prod.mk.injEq] at h'
    obtain ⟨rfl, e2⟩ := h'
    obtain rfl := drop_inj hk hk' e2
    exact ⟨he, rfl⟩

theorem textO_at {l : List UInt8} {a : Nat} {t : ByteArray} {r : List UInt8} (h : textO (l.drop a) = some (t, r)) : ∃ k, k ≤ l.length ∧ r = l.drop k := by
  have h1 := textO_enc h
  have h2 : l = (l.take a ++ encT t) ++ r := by rw [List.append_assoc, ← h1, List.take_append_drop]
  obtain ⟨x, hx⟩ : ∃ x, l.take a ++ encT t = x := ⟨_, rfl⟩
  rw [hx] at h2
  clear hx h1 h
  subst h2
  exact ⟨x.length, by simp, by rw [List.drop_left]⟩

theorem RestAt.on {R : Nat} {w w' : World} {v : Value} {l : List UInt8} (h : RestAt R w v l) (hb : Below R w w') : RestAt R w' v l := by
  obtain ⟨p, cap, rfl, h2, h3, h4⟩ := h
  refine ⟨p, cap, rfl, h2, h3, ?_⟩
  rcases h4 with h4 | ⟨b, off, hp, hbR, h4⟩
  · exact Or.inl h4
  · exact Or.inr ⟨b, off, hp, hbR, fun i hi => (hb.cell (p := ⟨b, off + i, none⟩) hbR).trans (h4 i hi)⟩

def endO (fs : List Fld) : List UInt8 → Option (List Fld)
  | [] => if mayB fs = true then some fs else none
  | _ :: _ => none

/-- Between two rounds of the outer loop. -/
def RdSt (w : World) (l : List UInt8) (n i a : Nat) (v : Value) (wr : World) : Prop :=
  ∃ d : List Fx, OwnXs w.heap.size wr v d ∧ d.length = i ∧ a ≤ l.length ∧ fieldsL n (l.drop 1) = (fieldsL (n - i) (l.drop a)).map (fun x => (d.map Fx.fld ++ x.1, x.2)) ∧ Below w.heap.size w wr

/-- Between two rounds of the inner loop: the field's box is F. -/
def RdIn (l : List UInt8) (F : Nat) (nm : ByteArray) (c a1 j a : Nat) (wr : World) : Prop :=
  ∃ sv ts, wr.heap[F]? = some (.cells #[.string nm, sv] 45 (0, 0)) ∧ OwnT (F + 1) wr sv ts ∧ ts.length = j ∧ a ≤ l.length ∧ textsO c (l.drop a1) = (textsO (c - j) (l.drop a)).map (fun x => (ts ++ x.1, x.2)) ∧ F < wr.heap.size

theorem fieldsL_step {n i a : Nat} {l : List UInt8} (h : i < n) : fieldsL (n - i) (l.drop a) = match fieldL (l.drop a) with
    | none => none
    | some (f, r) => (fieldsL (n - (i + 1)) r).map fun x => (f :: x.1, x.2) := by
  obtain ⟨k, hk⟩ : ∃ k, n - i = k + 1 := ⟨n - i - 1, by omega⟩
  rw [hk, show n - (i + 1) = k by omega]
  rfl
theorem textsO_step {n i : Nat} {l : List UInt8} (h : i < n) : textsO (n - i) l = match textO l with
    | none => none
    | some (t, r) => (textsO (n - (i + 1)) r).map fun x => (t :: x.1, x.2) := by
  obtain ⟨k, hk⟩ : ∃ k, n - i = k + 1 := ⟨n - i - 1, by omega⟩
  rw [hk, show n - (i + 1) = k by omega]
  rfl

theorem rdec_none {c : UInt8} {r : List UInt8} (h : fieldsL c.toNat r = none) : rdecO (c :: r) = none := by
  rw [rdecO_cons, h]
  split <;> rfl

set_option maxHeartbeats 8000000 in
set_option maxRecDepth 100000 in
theorem rdecode_any (v : Value) (l : List UInt8) (w : World) (hv : RestAt w.heap.size w v l) :
    Calls Tryd.prog 19 #[v] w fun e w' => DecPost w l e w' := by
  unfold DecPost
  rw [← rdec_eq]
  have HV := hid hv
  obtain ⟨i0, hi0, hz0, hz1, hz2⟩ := info_parts Tryd.infoStr
  obtain ⟨j0, hj0, hy0, hy1, hy2⟩ := info_parts Tryd.infoFld
  have HI := hid hi0
  have HJ := hid hj0
  clear hi0 hj0
  obtain ⟨p, cap, rfl, hc1, hc2, hx⟩ := hv
  unfold maxLen at hc2
  cases hl : l with
  | nil =>
    subst hl
    clear hx
    go_enter Tryd.func19, Tryd.ntmps19
    go_wp2_with fail
    go_ret2
    exact ⟨Or.inl ⟨rfl, rfl⟩, Below.refl _ _⟩
  | cons c0 r0 =>
    obtain ⟨b, off, rfl, hbR, hcell⟩ : ∃ b off, p = some ⟨b, off, none⟩ ∧ b < w.heap.size ∧ ∀ i, (h : i < l.length) → w.cell? ⟨b, off + i, none⟩ = some (.int .u8 l[i].toNat) := by
      rcases hx with h | h
      · rw [hl] at h; cases h
      · exact h
    have hlen : l.length = r0.length + 1 := by rw [hl]; rfl
    have hb0 : w.cell? ⟨b, off, none⟩ = some (.int .u8 c0.toNat) := by
      have e : l[0]'(by omega) = c0 := by simp [hl]
      have := hcell 0 (by omega)
      rw [e] at this
      exact this
    have HCELL := hid hcell
    have HLL := hid hl
    have hd1 : l.drop 1 = r0 := by rw [hl]; rfl
    have HD1 := hid hd1
    rw [← hl]
    have h1l : 1 ≤ l.length := by omega
    have HLEN := hid hlen
    clear hx hcell hl hd1 hlen
    have hne : ((l.length : Int) == 0) = false := beq_eq_false_iff_ne.2 (by omega)
    have hc0 := c0.toNat_lt
    have hl0 : (0 : Int) < (l.length : Int) := by omega
    by_cases h16 : 16 < c0.toNat
    · have h16z : decide ((16 : Int) < (c0.toNat : Int)) = true := decide_eq_true (by omega)
      have HN : Hid (rdecO l = none) := by show _ = _; rw [HLL.out, rdecO_cons, if_pos h16]
      go_enter Tryd.func19, Tryd.ntmps19
      go_wp2_with fail
      go_ret2
      exact ⟨Or.inl ⟨HN.out, rfl⟩, Below.refl _ _⟩
    · have h16z : decide ((16 : Int) < (c0.toNat : Int)) = false := decide_eq_false (by omega)
      have ST0 : Hid (RdSt w l c0.toNat 0 1 (.slice none 0 0) w) := ⟨[], ⟨World.ownsRow_nil _ _ _ _, fun x hx => by simp at hx⟩, rfl, by omega, by rw [HD1.out]; simp, Below.refl _ _⟩
      go_enter Tryd.func19, Tryd.ntmps19
      go_wp2_with fail
      go_loopg [4, 5, 6] c0.toNat (fun g v4 va vi wr => ∃ i a : Nat, vi = .int .i64 i ∧ va = .int .i64 a ∧ i ≤ c0.toNat ∧ c0.toNat - i ≤ g ∧ RdSt w l c0.toNat i a v4 wr)
      case atStart => exact ⟨0, 1, rfl, rfl, by omega, by omega, ST0.out⟩
      case round =>
        obtain ⟨i, a, rfl, rfl, hi, hgk, d, hox, hdl, ha, hfl, hb⟩ := hrel
        have hbc : wr.cell? ⟨b, off, none⟩ = some (.int .u8 c0.toNat) := (hb.cell (p := ⟨b, off, none⟩) hbR).trans hb0
        have HNF : Hid (i < c0.toNat → fieldL (l.drop a) = none → rdecO l = none) := fun hlt h => by
          rw [HLL.out]
          refine rdec_none ?_
          rw [← HD1.out, hfl, fieldsL_step hlt, h]
          rfl
        have HFL := hid hfl
        have HOX := hid hox
        have HB := hid hb
        have HDL := hid hdl
        have hszr := hb.size
        clear hfl hox hb hdl
        by_cases hlt : i < c0.toNat
        · have hltz : (i : Int) < (c0.toNat : Int) := by omega
          have hltb : decide ((i : Int) < (c0.toNat : Int)) = true := decide_eq_true hltz
          obtain ⟨W1, hW1⟩ : ∃ W1, wr.alloc (.cells #[.string ⟨#[]⟩, .slice none 0 0] 45) = W1 := ⟨_, rfl⟩
          have hbW1 : Below w.heap.size w W1 := by rw [← hW1]; exact HB.out.alloc hszr _
          have hF1 : W1.heap[wr.heap.size]? = some (.cells #[.string ⟨#[]⟩, .slice none 0 0] 45 (0, 0)) := by rw [← hW1]; exact heap_alloc_new wr _
          have hbF1 : Below wr.heap.size wr W1 := by rw [← hW1]; exact (Below.refl _ wr).alloc (Nat.le_refl _) _
          have hsW1 : W1.heap.size = wr.heap.size + 1 := by rw [← hW1]; simp
          obtain ⟨f0, f1, f2, f3⟩ := box_facts hF1
          have hrW := HV.out.on hbW1
          have HW1 := hid hW1
          clear hW1
          cases hto : textO (l.drop a) with
          | none =>
            have HT := hid (rtake_none _ _ l a W1 hrW ha hto)
            have HN : Hid (rdecO l = none) := HNF.out hlt (by unfold fieldL; rw [hto])
            clear hrW hto
            go_wp2_with (first | (go_at_call 40; rw [HW1.out]; refine HT.out.mono ?_; rintro e w2 ⟨rfl, rfl⟩))
            go_ret2
            exact ⟨Or.inl ⟨HN.out, rfl⟩, hbW1.setCell (p := ⟨wr.heap.size, 0, none⟩) hszr _⟩
          | some x =>
            obtain ⟨nm, r⟩ := x
            obtain ⟨k, hk, rfl⟩ := textO_at hto
            have HT := hid (rtake_some _ _ l a k nm W1 hrW ha hto hk)
            have hkneg : decide ((k : Int) < 0) = false := decide_eq_false (by omega)
            obtain ⟨W2, hW2⟩ : ∃ W2, W1.setCell ⟨wr.heap.size, 0, none⟩ (.string nm) = W2 := ⟨_, rfl⟩
            have hbW2 : Below w.heap.size w W2 := by rw [← hW2]; exact hbW1.setCell (p := ⟨wr.heap.size, 0, none⟩) hszr _
            have hF2 : W2.heap[wr.heap.size]? = some (.cells #[.string nm, .slice none 0 0] 45 (0, 0)) := by rw [← hW2]; exact rd_set0 hF1
            have hbF2 : Below wr.heap.size wr W2 := by rw [← hW2]; exact hbF1.setCell (p := ⟨wr.heap.size, 0, none⟩) (Nat.le_refl _) _
            have hsW2 : W2.heap.size = wr.heap.size + 1 := by rw [← hW2]; simp [World.setCell]; exact hsW1
            have HW2 := hid hW2
            have HTO := hid hto
            clear hrW hto hW2
            by_cases hkl : k < l.length
            · have hkb : decide ((l.length : Int) ≤ (k : Int)) = false := decide_eq_false (by omega)
              have hkb2 : decide (l.length ≤ k) = false := decide_eq_false (by omega)
              have hki : (k : Int) < (l.length : Int) := by omega
              have hk0 : (0 : Int) ≤ (k : Int) := by omega
              have hck := HCELL.out k hkl
              have hdk := drop_cons hkl
              obtain ⟨c, hc⟩ : ∃ c, l[k] = c := ⟨_, rfl⟩
              rw [hc] at hck hdk
              have hc8 := c.toNat_lt
              have hckW : W2.cell? ⟨b, off + k, none⟩ = some (.int .u8 c.toNat) := (hbW2.cell (p := ⟨b, off + k, none⟩) hbR).trans hck
              have HDK := hid hdk
              clear hc hck hdk
              by_cases h8 : 8 < c.toNat
              · have h8z : decide ((8 : Int) < (c.toNat : Int)) = true := decide_eq_true (by omega)
                have HN : Hid (rdecO l = none) := HNF.out hlt (by unfold fieldL; rw [HTO.out, HDK.out]; simp only; rw [if_pos h8])
                go_wp2_with (first | (go_at_call 40; rw [HW1.out]; refine HT.out.mono ?_; rintro e w2 ⟨rfl, rfl⟩) | (rw [HW2.out]))
                go_ret2
                exact ⟨Or.inl ⟨HN.out, rfl⟩, hbW2⟩
              · have h8z : decide ((8 : Int) < (c.toNat : Int)) = false := decide_eq_false (by omega)
                obtain ⟨F, hF⟩ : ∃ F, wr.heap.size = F := ⟨_, rfl⟩
                have IN0 : Hid (RdIn l F nm c.toNat (k + 1) 0 (k + 1) W2 ∧ Below F wr W2) := by
                  subst hF
                  exact ⟨⟨.slice none 0 0, [], hF2, World.ownsRow_nil _ _ _ _, rfl, by omega, by simp, by omega⟩, hbF2⟩
                have KP : Hid (∀ W, Below F wr W → OwnXs w.heap.size W u4 d ∧ Below w.heap.size w W ∧ RestAt w.heap.size W (.slice (some ⟨b, off, none⟩) l.length cap) l ∧ F ≤ W.heap.size ∧ W.cell? ⟨b, off, none⟩ = some (.int .u8 c0.toNat)) := fun W h => by
                  subst hF
                  have hbw := HB.out.trans (h.mono hszr)
                  exact ⟨HOX.out.on h, hbw, HV.out.on hbw, h.size, (hbw.cell (p := ⟨b, off, none⟩) hbR).trans hb0⟩
                have hFw : w.heap.size ≤ F := by omega
                have HFE := hid hF
                clear hF
                have HFO : Hid (∀ ts q, textsO c.toNat (l.drop (k + 1)) = some (ts, q) → fieldL (l.drop a) = some ((nm, ts), q)) := fun ts q h => by
                  unfold fieldL; rw [HTO.out, HDK.out]; simp only; rw [if_neg h8, h]; rfl
                have HFN : Hid (textsO c.toNat (l.drop (k + 1)) = none → rdecO l = none) := fun h => HNF.out hlt (by
                  unfold fieldL; rw [HTO.out, HDK.out]; simp only; rw [if_neg h8, h]; rfl)
                go_wp2_with (first | (go_at_call 40; rw [HW1.out]; refine HT.out.mono ?_; rintro e w2 ⟨rfl, rfl⟩) | (rw [HW2.out]))
                clear hF2 hF1 f0 f1 f2 f3 hbF1 hsW1 hbW1 hbF2
                rw [HFE.out]
                clear hsW2 hszr
                go_loopg [5, 9] c.toNat (fun g va vj wj => ∃ j a' : Nat, vj = .int .i64 j ∧ va = .int .i64 a' ∧ j ≤ c.toNat ∧ c.toNat - j ≤ g ∧ RdIn l F nm c.toNat (k + 1) j a' wj ∧ Below F wr wj)
                case atStart => exact ⟨0, k + 1, rfl, by go_num, by omega, by omega, IN0.out⟩
                case round =>
                  obtain ⟨j, a', rfl, rfl, hj, hgj, ⟨sv, ts, hbF, hot, htl, ha', hte, hFl⟩, hbj⟩ := hrel
                  obtain ⟨hoxj, hbwj, hrj, hFj, hbcj⟩ := KP.out _ hbj
                  have KJ : Hid (∀ W, Below F wr W → OwnXs w.heap.size W u4 d ∧ Below w.heap.size w W ∧ RestAt w.heap.size W (.slice (some ⟨b, off, none⟩) l.length cap) l ∧ F ≤ W.heap.size ∧ W.cell? ⟨b, off, none⟩ = some (.int .u8 c0.toNat)) := fun W h => KP.out W (hbj.trans h)
                  have HTL := hid htl
                  have HTE := hid hte
                  have HOT := hid hot
                  have HBF := hid hbF
                  obtain ⟨g0, g1, g2, g3⟩ := box_facts hbF
                  clear htl hte hot
                  by_cases hlj : j < c.toNat
                  · have hljz : decide ((j : Int) < (c.toNat : Int)) = true := decide_eq_true (by omega)
                    cases hto2 : textO (l.drop a') with
                    | none =>
                      have HT2 := hid (rtake_none _ _ l a' wr hrj ha' hto2)
                      have HN : Hid (rdecO l = none) := HFN.out (by rw [HTE.out, textsO_step hlj, hto2]; rfl)
                      clear hto2
                      go_wp2_with (first | (go_at_call 40; refine HT2.out.mono ?_; rintro e w3 ⟨rfl, rfl⟩))
                      go_ret2
                      exact ⟨Or.inl ⟨HN.out, rfl⟩, hbwj⟩
                    | some y =>
                      obtain ⟨t, r2⟩ := y
                      obtain ⟨k2, hk2, rfl⟩ := textO_at hto2
                      have HT2 := hid (rtake_some _ _ l a' k2 t wr hrj ha' hto2 hk2)
                      have hk2neg : decide ((k2 : Int) < 0) = false := decide_eq_false (by omega)
                      have HTN : Hid (textsO c.toNat (l.drop (k + 1)) = (textsO (c.toNat - (j + 1)) (l.drop k2)).map (fun x => ((ts ++ [t]) ++ x.1, x.2))) := by
                        show _ = _
                        rw [HTE.out, textsO_step hlj, hto2]
                        simp only [Option.map_map]
                        congr 1
                        funext x
                        simp
                      clear hto2
                      go_wp2_with (first | (go_at_call 40; refine HT2.out.mono ?_; rintro e w3 ⟨rfl, rfl⟩) | (at_builtin; refine wpList_append_own _ rfl _ _ 40 rfl (F + 1) 9 i0 (.string ⟨#[]⟩) 1 16 Tryd.underlying40 HI.out hz0 hz1 hz2 rfl (by decide) _ _ _ rfl (World.ownsRow.alloc HOT.out _) ⟨w3.heap.size, 0, none⟩ 1 1 [.string t] rfl rfl ?c1 ?c2 ?c3 ?c4 ?c5 ?_))
                      case c1 =>
                        intro m u hm
                        match m, hm with
                        | 0, hm => simp at hm; subst hm; simp [Addr.add]
                      case c2 => intro u hu; simp at hu; subst hu; rfl
                      case c3 => rw [HTL.out]; unfold maxLen; omega
                      case c4 => rw [HTL.out]; omega
                      case c5 => simp; omega
                      intro v4 w4 hown4 hg4 _
                      obtain ⟨g', cap', rfl⟩ := ownsRow_succ hown4
                      have hbF4 : w4.heap[F]? = some (.cells #[.string nm, sv] 45 (0, 0)) := ((hg4.block F (by simp; omega) (fun e => absurd ((World.ownsRow.lt HOT.out F e.symm).1) (by omega))).trans (Below.heap_alloc _ _ F hFl)).trans HBF.out
                      obtain ⟨m0, m1, m2, m3⟩ := box_facts hbF4
                      have hb4 : Below F w3 w4 := ((Below.refl F w3).alloc hFj _).grown hg4 (by simp; omega) (fun q hq => by have := (World.ownsRow.lt HOT.out q hq).1; omega)
                      have hsz4 := hb4.size
                      have HIN : Hid (RdIn l F nm c.toNat (k + 1) (j + 1) k2 (w4.setCell ⟨F, 1, none⟩ (.slice (some ⟨g', 0, none⟩) (ts.length + 1) cap')) ∧ Below F w3 (w4.setCell ⟨F, 1, none⟩ (.slice (some ⟨g', 0, none⟩) (ts.length + 1) cap'))) := by
                        refine ⟨⟨_, ts ++ [t], rd_set1 hbF4, ?_, by rw [List.length_append, HTL.out]; rfl, hk2, HTN.out, by simp [World.setCell]; omega⟩, hb4.setCell (p := ⟨F, 1, none⟩) (Nat.le_refl _) _⟩
                        refine OwnT.grown (R := F) ?_ (grown_set w4 F 1 _) (by omega)
                        unfold OwnT
                        simp only [List.length_append, List.length_cons, List.length_nil, List.map_append, List.map_cons, List.map_nil]
                        exact hown4
                      clear hown4 hg4 hbF4 hb4
                      go_wp2_with fail
                      go_roundg (c.toNat - (j + 1))
                      case measure => omega
                      exact ⟨j + 1, k2, by go_num, rfl, by omega, by omega, HIN.out.1, hbj.trans HIN.out.2⟩
                  · obtain rfl : j = c.toNat := by omega
                    have hljz : decide ((c.toNat : Int) < (c.toNat : Int)) = false := decide_eq_false (by omega)
                    have HFF : Hid (fieldL (l.drop a) = some ((nm, ts), l.drop a')) := HFO.out _ _ (by rw [HTE.out, Nat.sub_self]; simp [textsO])
                    obtain ⟨p', cap', rfl⟩ := own_slice HOT.out
                    have HOJ := hid hoxj
                    have HBW := hid hbwj
                    have hszw := hbwj.size
                    clear hoxj hbwj hrj
                    go_wp2_with (first | (at_builtin; refine wpList_append_own _ rfl _ _ 22 rfl w.heap.size 45 j0 (.agg #[.string ⟨#[]⟩, .slice none 0 0]) 2 40 Tryd.underlying22 HJ.out hy0 hy1 hy2 rfl (by decide) _ _ _ rfl (World.ownsRow.alloc HOJ.out.1 _) ⟨wr.heap.size, 0, none⟩ 1 1 (cellsX [⟨nm, p', cap', ts⟩]) rfl rfl (news_x wr ⟨nm, p', cap', ts⟩) (cellsX_one _) ?c3 ?c4 ?c5 ?_))
                    case c3 => rw [HDL.out]; unfold maxLen; omega
                    case c4 => rw [HDL.out]; omega
                    case c5 => simp; omega
                    intro v5 w5 hown5 hg5 _
                    have hxo : OwnXs w.heap.size (wr.alloc (.cells #[.string nm, .slice p' ts.length cap'] 45)) u4 d := HOJ.out.on ((Below.refl _ _).alloc (Nat.le_refl _) _)
                    have hox5 := hxo.put (x := ⟨nm, p', cap', ts⟩) (own_weak (OwnT.on HOT.out ((Below.refl _ _).alloc (Nat.le_refl _) _)) (by omega)) hown5 hg5
                    have hb5 : Below w.heap.size w w5 := (HBW.out.alloc hszw _).grown hg5 (by simp; omega) (fun q hq => (World.ownsRow.lt HOJ.out.1 q hq).1)
                    have HST : Hid (RdSt w l c0.toNat (i + 1) a' v5 w5) := by
                      refine ⟨_, hox5, by rw [List.length_append, HDL.out]; rfl, ha', ?_, hb5⟩
                      rw [HFL.out, fieldsL_step hlt, HFF.out]
                      simp only [Option.map_map]
                      congr 1
                      funext x
                      simp [Fx.fld]
                    clear hown5 hg5 hxo hox5 hb5
                    go_wp2_with fail
                    go_roundg (c0.toNat - (i + 1))
                    case measure => omega
                    exact ⟨i + 1, a', by go_num, rfl, by omega, by omega, HST.out⟩
            · have hkb : decide ((l.length : Int) ≤ (k : Int)) = true := decide_eq_true (by omega)
              have hkb2 : decide (l.length ≤ k) = true := decide_eq_true (by omega)
              have HN : Hid (rdecO l = none) := HNF.out hlt (by unfold fieldL; rw [HTO.out, List.drop_of_length_le (by omega)])
              go_wp2_with (first | (go_at_call 40; rw [HW1.out]; refine HT.out.mono ?_; rintro e w2 ⟨rfl, rfl⟩) | (rw [HW2.out]))
              go_ret2
              exact ⟨Or.inl ⟨HN.out, rfl⟩, hbW2⟩
        · obtain rfl : i = c0.toNat := by omega
          have hltb : decide ((c0.toNat : Int) < (c0.toNat : Int)) = false := decide_eq_false (by omega)
          have hfl := HFL.out
          rw [Nat.sub_self] at hfl
          have hfs : fieldsL c0.toNat r0 = some (d.map Fx.fld, l.drop a) := by
            rw [← HD1.out, hfl]
            simp [fieldsL]
          have hsm : ∀ f ∈ d.map Fx.fld, FitF f := by
            rcases fieldsS_L c0.toNat r0 with ⟨h1, _⟩ | ⟨fs, q, h1, h2⟩
            · rw [hfs] at h1; cases h1
            · rw [hfs] at h1
              cases h1
              have := fieldsS_small c0.toNat (r0, false)
              rw [h2] at this
              exact this
          have HMY := hid (rmay_any u4 d wr HOX.out.is (fitX_of rfl (by rw [HDL.out]; unfold maxLen; omega) hsm))
          have HRD : Hid (rdecO l = endO (d.map Fx.fld) (l.drop a)) := (congrArg rdecO HLL.out).trans (by
            rw [rdecO_cons, if_neg h16, hfs]
            generalize l.drop a = q
            cases q <;> rfl)
          clear hfl hfs hsm
          by_cases hal : a = l.length
          · subst hal
            have hnb : ((l.length : Int) != (l.length : Int)) = false := by simp
            rw [List.drop_length] at HRD
            cases hm : mayB (d.map Fx.fld) with
            | false =>
              rw [hm] at HMY
              have HN : Hid (rdecO l = none) := by show _ = _; rw [HRD.out]; simp [endO, hm]
              go_wp2_with (first | (go_at_call 14; refine HMY.out.mono ?_; rintro e w2 ⟨rfl, hg2⟩))
              go_ret2
              exact ⟨Or.inl ⟨HN.out, rfl⟩, HB.out.trans (hg2.below.mono hszr)⟩
            | true =>
              rw [hm] at HMY
              have HN : Hid (rdecO l = some (d.map Fx.fld)) := by show _ = _; rw [HRD.out]; simp [endO, hm]
              go_wp2_with (first | (go_at_call 14; refine HMY.out.mono ?_; rintro e w2 ⟨rfl, hg2⟩))
              go_ret2
              exact ⟨Or.inr ⟨_, HN.out, _, d, rfl, HOX.out.on hg2.below, rfl⟩, HB.out.trans (hg2.below.mono hszr)⟩
          · have hnb : ((a : Int) != (l.length : Int)) = true := by simp; omega
            have HN : Hid (rdecO l = none) := by
              show _ = _
              rw [HRD.out, drop_cons (show a < l.length by omega)]
              rfl
            go_wp2_with fail
            go_ret2
            exact ⟨Or.inl ⟨HN.out, rfl⟩, HB.out⟩

end Go.Proofs.YtmjchokacmbkoaaDoor
