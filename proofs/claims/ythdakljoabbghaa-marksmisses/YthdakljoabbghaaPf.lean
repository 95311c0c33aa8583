/-
  Texts of this claim, one behind the other: Mse Mlm Mfd Mfw Ma4.
-/
import Derived.Test.YthdakljoabbghaaPc
import Derived.Test.YthdakljoabbghaaPe
import Derived.Test.YthdakljoabbghaaPd
import Derived.Test.YthdakljoabbghaaRows
/-
  MarksMisses (stage 12): seen, the finds that a range takes.
-/
namespace Go.Proofs.Ythdakljoabbghaa
open Go.RowKit

theorem Try.infoFd12 : (Try.prog.info? 51).map (fun i => (i.zero, i.size, i.bytes)) = some (some (.agg #[.string ⟨#[]⟩, .string ⟨#[]⟩, .int .i64 0, .int .u64 0, .int .i64 0, .bool false, .slice none 0 0]), 7, 88) := by kernel_rfl

/-- Is a find taken by a range? -/
def takeF (r : Rg) (x : Fd) : Bool := decide (x.a = r.1) && (x.v.live && matchM r.2 (x.v.o.map Fx.fld))
/-- Finds in memory. -/
structure FdIn (W : World) (v : Value) (l : List Fd) : Prop where
  is : KFd.Is W v l
  each : ∀ x ∈ l, x.v.at W ∧ FitX x.v.o
theorem FdIn.on {W W' : World} {v : Value} {l : List Fd} (h : FdIn W v l) (hb : Below W.heap.size W W') : FdIn W' v l := ⟨Kind.is_kept h.is hb, fun x hx => ⟨(h.each x hx).1.kept hb, (h.each x hx).2⟩⟩

def SeenPost (W : World) (l : List Fd) (e : Ending) (w' : World) : Prop := ∃ p c, e = .returned (.slice p l.length c) ∧ RowSt KFd W.heap.size W (.slice p l.length c) l w'

set_option maxHeartbeats 8000000 in
set_option maxRecDepth 100000 in
theorem seen12_any (r : Rx) (v : Value) (l : List Fd) (w : World) (hr : r.at w) (hv : FdIn w v l) (hl : l.length ≤ 1599289640356) :
    Calls Try.prog 26 #[.agg (encRx r).toArray, v] w fun e w' => SeenPost w (l.filter (takeF r.rg)) e w' := by
  obtain ⟨i0, hi0, hz0, hz1, hz2⟩ := info_parts Try.infoFd12
  have HI0 := hid hi0
  obtain ⟨p, cap, rfl, hd⟩ := id hv.is
  obtain ⟨V, hV⟩ : ∃ V, w.alloc (.cells (encRx r).toArray 34) = V := ⟨_, rfl⟩
  obtain ⟨M, hM⟩ : ∃ M, w.heap.size = M := ⟨_, rfl⟩
  obtain ⟨hbV, hVo, hVs⟩ := one_box w (encRx r).toArray 34
  rw [hV] at hbV hVo hVs
  rw [hM] at hVo hVs
  -- ahead of V all stands
  have HIN : Hid (∀ W', Below V.heap.size V W' → r.at W' ∧ FdIn W' (.slice p l.length cap) l ∧ W'.cell? ⟨M, 0, none⟩ = some (.string r.typ) ∧ W'.cell? ⟨M, 1, none⟩ = some r.sl) := fun W' hW => by
    have hb : Below w.heap.size w W' := bel_then hbV hbV.size hW
    have e1 := (hW.block M (by omega)).trans hVo
    exact ⟨hr.on hb, hv.on hb, by rw [Lib.cell_of_heap e1]; rfl, by rw [Lib.cell_of_heap e1]; rfl⟩
  have HMT : Hid (∀ W' (d : List Fx) (u : Value), Below V.heap.size V W' → IsXs W' u d → FitX d → Calls Try.prog 48 #[r.sl, u] W' fun e w' => e = .returned (.bool (matchM r.tm (d.map Fx.fld))) ∧ Grown W' w') := fun W' d u hW h1 h2 => rmatch_any r.sl u r.tm d W' (HIN.out W' hW).1.1 (HIN.out W' hW).1.2.1 h1 h2
  have HBW : Hid (Below w.heap.size w V) := hbV
  have HST0 : Hid (RowSt KFd V.heap.size V (.slice none 0 0) ((l.take 0).filter (takeF r.rg)) V) := RowSt.nil KFd (Below.refl _ _) (Nat.le_refl _)
  obtain ⟨rg, hrg⟩ : ∃ rg, r.rg = rg := ⟨_, rfl⟩
  have HRG : Hid (rg = (r.typ, r.tm)) := hrg.symm
  rw [hrg] at HST0 ⊢
  have HVS : Hid (w.heap.size ≤ V.heap.size) := by show _ ≤ _; omega
  clear hr hv hd hbV hVo hVs hi0 hrg
  obtain ⟨rt, rp, rc, rm⟩ := r
  simp only [encRx, Rx.sl] at *
  go_enter Try.func26, Try.ntmps26
  go_wp2_with fail
  try rw [hV]
  try rw [hM]
  clear hV
  go_loopg [5, 10] l.length (fun gg v5 vi wr => ∃ (i : Nat) (p' : Option Addr) (c' : Nat), vi = .int .i64 i ∧ v5 = .slice p' ((l.take i).filter (takeF rg)).length c' ∧ i ≤ l.length ∧ l.length - i ≤ gg ∧ Hid (RowSt KFd V.heap.size V (.slice p' ((l.take i).filter (takeF rg)).length c') ((l.take i).filter (takeF rg)) wr))
  case atStart => exact ⟨0, none, 0, rfl, rfl, by omega, by omega, HST0.out⟩
  case round =>
    clear HST0
    obtain ⟨i, p', c', rfl, rfl, hi, hgk, HI⟩ := hrel
    by_cases hlt : i < l.length
    · have hltz : (i : Int) < (l.length : Int) := by omega
      have hiz : (0 : Int) ≤ i := by omega
      obtain ⟨b1, o1, rfl, k1⟩ : ∃ b off, p = some ⟨b, off, none⟩ ∧ KFd.At wr b off l := by
        obtain ⟨p2, c2, he, h⟩ := (HIN.out wr HI.out.bel).2.1.is
        injection he with e1 _ _
        subst e1
        rcases h with h | h
        · rw [h] at hlt; simp at hlt
        · exact h
      obtain ⟨y0, y1, y2, y3, y4, y5, y6⟩ := kfd_at k1 i hlt
      have HEA : Hid (∀ W', Below V.heap.size V W' → (l[i]).v.at W' ∧ FitX (l[i]).v.o) := fun W' hW => (HIN.out W' hW).2.1.each _ (List.getElem_mem hlt)
      have htk : (l.take (i + 1)).filter (takeF rg) = (l.take i).filter (takeF rg) ++ (if takeF rg l[i] = true then [l[i]] else []) := by
        rw [List.take_succ_eq_append_getElem hlt, List.filter_append, List.filter_cons, List.filter_nil]
      have hkl : ((l.take i).filter (takeF rg)).length ≤ i := Nat.le_trans (List.length_filter_le _ _) (by rw [List.length_take]; omega)
      generalize l[i] = x at *
      generalize (l.take i).filter (takeF rg) = A at *
      obtain ⟨T, hT⟩ : ∃ T, wr.alloc (.cells (encFd x).toArray 51) = T := ⟨_, rfl⟩
      obtain ⟨Q, hQ⟩ : ∃ Q, wr.heap.size = Q := ⟨_, rfl⟩
      obtain ⟨hbT, hTo, hTs⟩ := one_box wr (encFd x).toArray 51
      rw [hT] at hbT hTo hTs
      rw [hQ] at hTo hTs
      have HIT := hid (HI.out.on hbT)
      have HVT : Hid (∀ W', Below T.heap.size T W' → Below V.heap.size V W') := fun W' h => HIT.out.bel.trans (h.mono HIT.out.base)
      have HFX : Hid (∀ W', Below T.heap.size T W' → (W'.cell? ⟨Q, 0, none⟩ = some (.string x.a) ∧ W'.cell? ⟨Q, 1, none⟩ = some (.string x.b) ∧ W'.cell? ⟨Q, 2, none⟩ = some (.int .i64 x.v.num) ∧ W'.cell? ⟨Q, 3, none⟩ = some (.int .u64 x.v.stamp) ∧ W'.cell? ⟨Q, 4, none⟩ = some (.int .i64 x.v.tick) ∧ W'.cell? ⟨Q, 5, none⟩ = some (.bool x.v.live) ∧ W'.cell? ⟨Q, 6, none⟩ = some x.v.sl) ∧ (W'.cell? ⟨M, 0, none⟩ = some (.string rt) ∧ W'.cell? ⟨M, 1, none⟩ = some (.slice rp rm.length rc))) := fun W' hW => by
        have e1 := (hW.block Q (by omega)).trans hTo
        have h2 := (HIN.out W' (HVT.out W' hW)).2.2
        exact ⟨⟨by rw [Lib.cell_of_heap e1]; rfl, by rw [Lib.cell_of_heap e1]; rfl, by rw [Lib.cell_of_heap e1]; rfl, by rw [Lib.cell_of_heap e1]; rfl, by rw [Lib.cell_of_heap e1]; rfl, by rw [Lib.cell_of_heap e1]; rfl, by rw [Lib.cell_of_heap e1]; rfl⟩, h2⟩
      have HMX : Hid (Calls Try.prog 48 #[.slice rp rm.length rc, x.v.sl] T fun e w' => e = .returned (.bool (matchM rm (x.v.o.map Fx.fld))) ∧ Grown T w') := HMT.out T _ _ (HVT.out T (Below.refl _ _)) (HEA.out T (HVT.out T (Below.refl _ _))).1 (HEA.out T (HVT.out T (Below.refl _ _))).2
      have HTK : Hid ((l.take (i + 1)).filter (takeF rg) = A ++ (if takeF rg x = true then [x] else [])) := htk
      have HTF : Hid (takeF rg x = ((x.a.toList == rt.toList) && (x.v.live && matchM rm (x.v.o.map Fx.fld)))) := by
        show _ = _
        rw [HRG.out]
        unfold takeF
        by_cases h : x.a = rt
        · rw [seq_true h, decide_eq_true h]
        · rw [seq_false h, decide_eq_false h]
      obtain ⟨⟨g0, g1, g2, g3, g4, g5, g6⟩, r0, r1⟩ := HFX.out T (Below.refl _ _)
      -- what is left as it was
      have HNO : Hid (∀ W', Below T.heap.size T W' → takeF rg x = false → (RowSt KFd V.heap.size V (.slice p' ((l.take (i + 1)).filter (takeF rg)).length c') ((l.take (i + 1)).filter (takeF rg)) W' ∧ A = (l.take (i + 1)).filter (takeF rg))) := fun W' hW hn => by
        have e : (l.take (i + 1)).filter (takeF rg) = A := by rw [HTK.out, hn]; simp
        rw [e]
        exact ⟨HIT.out.on hW, rfl⟩
      clear k1 hbT hTo hTs htk HEA HI
      obtain ⟨xa, xb, xn, xs, xt, xl, xp, xc, xo⟩ := x
      simp only [encFd, encVx, Vx.sl] at *
      cases he : xa.toList == rt.toList with
      | true =>
        cases xl with
        | false =>
          have HF := hid (HNO.out T (Below.refl _ _) (by rw [HTF.out, he]; rfl))
          clear HNO HMX HFX
          go_wp2_with fail
          go_roundg (l.length - (i + 1))
          case measure => omega
          exact ⟨i + 1, p', c', by go_num, by rw [← HF.out.2], by omega, by omega, HF.out.1⟩
        | true =>
          obtain ⟨B, hB⟩ : ∃ B, matchM rm (xo.map Fx.fld) = B := ⟨_, rfl⟩
          rw [hB] at HMX
          have HTB : Hid (takeF rg ⟨xa, xb, ⟨xn, xs, xt, true, xp, xc, xo⟩⟩ = B) := by show _ = _; rw [HTF.out, he, hB]; rfl
          clear hB
          go_wp2_with fail
          try rw [hT]
          try rw [hQ]
          refine HMX.out.mono ?_
          rintro e z1 ⟨rfl, hz1⟩
          have hbz : Below T.heap.size T z1 := hz1.below
          have HBZ := hid hbz
          cases B with
          | false =>
            have HF := hid (HNO.out z1 hbz HTB.out)
            clear HNO HMX hz1 hbz
            go_wp2_with fail
            go_roundg (l.length - (i + 1))
            case measure => omega
            exact ⟨i + 1, p', c', by go_num, by rw [← HF.out.2], by omega, by omega, HF.out.1⟩
          | true =>
            obtain ⟨⟨q0, q1, q2, q3, q4, q5, q6⟩, _, _⟩ := HFX.out z1 hbz
            obtain ⟨W1, hW1⟩ : ∃ W1, z1.alloc (.cells #[.string xa, .string xb, .int .i64 xn, .int .u64 xs, .int .i64 xt, .bool true, .slice xp xo.length xc] 51) = W1 := ⟨_, rfl⟩
            have hb1 : Below z1.heap.size z1 W1 := by rw [← hW1]; exact (Below.refl _ _).alloc (Nat.le_refl _) _
            have HN1 : Hid (W1.heap[z1.heap.size]? = some (.cells #[.string xa, .string xb, .int .i64 xn, .int .u64 xs, .int .i64 xt, .bool true, .slice xp xo.length xc] 51 (0, 0))) := by rw [← hW1]; exact heap_alloc_new z1 _
            have HO1 := hid ((HIT.out.on hbz).on hb1)
            have HTK2 : Hid ((l.take (i + 1)).filter (takeF rg) = A ++ [⟨xa, xb, ⟨xn, xs, xt, true, xp, xc, xo⟩⟩]) := by show _ = _; rw [HTK.out, HTB.out]; rfl
            clear hb1 HMX hz1 hbz HNO g0 g1 g2 g3 g4 g5 g6 r0 r1 y0 y1 y2 y3 y4 y5 y6 hT
            go_wp2_with (at_builtin; refine wpList_push KFd rfl _ _ 46 rfl i0 _ 88 Try.underlying46 HI0.out hz0 hz1 hz2 rfl V.heap.size V _ A rfl HO1.out ⟨xa, xb, ⟨xn, xs, xt, true, xp, xc, xo⟩⟩ _ _ _ rfl rfl _ _ HN1.out (by unfold maxLen; omega) (by omega) ?_
                         intro g3 c3 w3 hst3 _ _
                         have HS3 := hid hst3
                         clear hst3)
            go_roundg (l.length - (i + 1))
            case measure => omega
            exact ⟨i + 1, some ⟨g3, 0, none⟩, c3, by go_num, by rw [HTK2.out, List.length_append]; rfl, by omega, by omega, by rw [HTK2.out, List.length_append]; exact HS3.out⟩
      | false =>
        have HF := hid (HNO.out T (Below.refl _ _) (by rw [HTF.out, he]; rfl))
        clear HNO HMX HFX
        go_wp2_with fail
        go_roundg (l.length - (i + 1))
        case measure => omega
        exact ⟨i + 1, p', c', by go_num, by rw [← HF.out.2], by omega, by omega, HF.out.1⟩
    · have hltz : ¬ (i : Int) < (l.length : Int) := by omega
      have hti : l.take i = l := List.take_of_length_le (by omega)
      rw [hti] at HI ⊢
      have HE : Hid (RowSt KFd w.heap.size w (.slice p' (l.filter (takeF rg)).length c') (l.filter (takeF rg)) wr) := ⟨Kind.own_weak HI.out.own HVS.out, bel_then HBW.out HVS.out HI.out.bel, Nat.le_trans HVS.out HI.out.base⟩
      clear HI
      go_wp2_with fail
      go_ret
      exact ⟨p', c', rfl, HE.out⟩

end Go.Proofs.Ythdakljoabbghaa

/-
  MarksMisses (stage 12): a change that doesn't touch a range is not seen by it, whatever stands around.
-/
namespace Go.Proofs.Ythdakljoabbghaa
open Go.RowKit

/-- The finds of the other keys. -/
def othersF (k : Ky) (l : List Fd) : List Fd := l.filter fun x => !decide ((x.a, x.b) = k)
def wasF (c : Cx) : Fd := ⟨c.a, c.b, ⟨0, 0, 0, c.wl, c.wp, c.wc, c.wo⟩⟩
def isF (c : Cx) : Fd := ⟨c.a, c.b, ⟨0, 0, 0, c.il, c.ip, c.ic, c.io⟩⟩
theorem miss_was {r : Rg} {c : Cx} (h : touchesM r c.ch = false) : takeF r (wasF c) = false := by
  unfold touchesM takeF wasF Cx.ch at *
  simp only at *
  by_cases e : r.1 = c.a
  · rw [decide_eq_true e, Bool.true_and, Bool.or_eq_false_iff] at h
    rw [h.1, Bool.and_false]
  · rw [decide_eq_false (fun e' => e e'.symm), Bool.false_and]
theorem miss_is {r : Rg} {c : Cx} (h : touchesM r c.ch = false) : takeF r (isF c) = false := by
  unfold touchesM takeF isF Cx.ch at *
  simp only at *
  by_cases e : r.1 = c.a
  · rw [decide_eq_true e, Bool.true_and, Bool.or_eq_false_iff] at h
    rw [h.2, Bool.and_false]
  · rw [decide_eq_false (fun e' => e e'.symm), Bool.false_and]
theorem miss_same {r : Rg} {c : Cx} (h : touchesM r c.ch = false) (A : List Fd) : (A ++ [wasF c]).filter (takeF r) = (A ++ [isF c]).filter (takeF r) := by
  rw [List.filter_append, List.filter_append, List.filter_cons, List.filter_cons, miss_was h, miss_is h]
  rfl

/-- Finds that stand in every world from w4 on. -/
def FdInAll (_ w4 : World) (v : Value) (l : List Fd) : Prop := ∀ W, Below w4.heap.size w4 W → FdIn W v l

set_option linter.unusedSimpArgs false in
set_option maxHeartbeats 8000000 in
set_option maxRecDepth 100000 in
theorem mmisses12_any (S : MarksApi) (hF : Fixed12) (r : Rx) (c : Cx) (v : Value) (l : List Fd) (w : World) (hr : r.at w) (hc : CIn w c) (hv : FdIn w v l) (hl : l.length ≤ 1599289640355) :
    Calls Try.prog 6 #[.agg (encRx r).toArray, .agg (encCx c).toArray, v] w fun e w' => e = .returned (.bool true) ∧ Below w.heap.size w w' := by
  obtain ⟨i0, hi0, hz0, hz1, hz2⟩ := info_parts Try.infoFd12
  have HI0 := hid hi0
  obtain ⟨p, cap, rfl, _⟩ := id hv.is
  obtain ⟨V, hV⟩ : ∃ V, (w.alloc (.cells (encRx r).toArray 34)).alloc (.cells (encCx c).toArray 43) = V := ⟨_, rfl⟩
  obtain ⟨M, hM⟩ : ∃ M, w.heap.size = M := ⟨_, rfl⟩
  obtain ⟨hbV, hbr, hbc, hs⟩ := two_boxes w (encRx r).toArray (encCx c).toArray 34 43
  rw [hV] at hbV hbr hbc hs
  rw [hM] at hbr hbc hs
  have HF := hid (hF V)
  have HIN : Hid (∀ W', Below V.heap.size V W' → r.at W' ∧ CIn W' c ∧ FdIn W' (.slice p l.length cap) l ∧ Below w.heap.size w W' ∧ (W'.cell? ⟨M, 0, none⟩ = some (.string r.typ) ∧ W'.cell? ⟨M, 1, none⟩ = some r.sl ∧ W'.cell? ⟨M + 1, 0, none⟩ = some (.string c.a) ∧ W'.cell? ⟨M + 1, 1, none⟩ = some (.string c.b) ∧ W'.cell? ⟨M + 1, 2, none⟩ = some (.bool c.wl) ∧ W'.cell? ⟨M + 1, 3, none⟩ = some (.slice c.wp c.wo.length c.wc) ∧ W'.cell? ⟨M + 1, 4, none⟩ = some (.bool c.il) ∧ W'.cell? ⟨M + 1, 5, none⟩ = some (.slice c.ip c.io.length c.ic))) := fun W' hW => by
    have hb' : Below w.heap.size w W' := bel_then hbV hbV.size hW
    have e1 := (hW.block M (by omega)).trans hbr
    have e2 := (hW.block (M + 1) (by omega)).trans hbc
    exact ⟨hr.on hb', hc.on hb', hv.on hb', hb', by rw [Lib.cell_of_heap e1]; rfl, by rw [Lib.cell_of_heap e1]; rfl, by rw [Lib.cell_of_heap e2]; rfl, by rw [Lib.cell_of_heap e2]; rfl, by rw [Lib.cell_of_heap e2]; rfl, by rw [Lib.cell_of_heap e2]; rfl, by rw [Lib.cell_of_heap e2]; rfl, by rw [Lib.cell_of_heap e2]; rfl⟩
  obtain ⟨BT, hBT⟩ : ∃ x, touchesM r.rg c.ch = x := ⟨_, rfl⟩
  have HTP : Hid (∀ W', Below V.heap.size V W' → Calls Try.prog 23 #[.agg (encRx r).toArray, .agg (encCx c).toArray] W' fun e w' => BoolPost W' BT e w') := fun W' hW => by
    have := S.touches W' r c (HIN.out W' hW).1 (HIN.out W' hW).2.1
    rwa [hBT] at this
  have HSE : Hid (∀ W' u q, Below V.heap.size V W' → FdIn W' u q → q.length ≤ 1599289640356 → Calls Try.prog 26 #[.agg (encRx r).toArray, u] W' fun e w' => SeenPost W' (q.filter (takeF r.rg)) e w') := fun W' u q hW hq hn => seen12_any r u q W' (HIN.out W' hW).1 hq hn
  have HSM : Hid (BT = false → ∀ A : List Fd, (A ++ [wasF c]).filter (takeF r.rg) = (A ++ [isF c]).filter (takeF r.rg)) := fun h A => miss_same (by rw [hBT, h]) A
  have HEA : Hid (∀ W', Below V.heap.size V W' → (∀ x ∈ l, x.v.at W' ∧ FitX x.v.o) ∧ ((wasF c).v.at W' ∧ FitX (wasF c).v.o) ∧ ((isF c).v.at W' ∧ FitX (isF c).v.o)) := fun W' hW => ⟨(HIN.out W' hW).2.2.1.each, ⟨(HIN.out W' hW).2.1.was, (HIN.out W' hW).2.1.wfit⟩, ⟨(HIN.out W' hW).2.1.is, (HIN.out W' hW).2.1.ifit⟩⟩
  obtain ⟨_, _, _, _, r0, r1, c0, c1, c2, c3, c4, c5⟩ := HIN.out V (Below.refl _ _)
  generalize takeF r.rg = TK at *
  clear hr hc hv hbV hbr hbc hs hF hBT hi0
  obtain ⟨rt, rp, rc, rm⟩ := r
  obtain ⟨ca, cb, wl, wp, wc, wo, il, ip, ic, io⟩ := c
  simp only [encRx, encCx, Rx.sl] at *
  go_enter Try.func6, Try.ntmps6
  go_wp2_with fail
  try rw [hV]
  try rw [hM]
  clear hV r0 r1 c0 c1 c2 c3 c4 c5
  refine HF.out.mono ?_
  rintro e w1 ⟨rfl, hb1⟩
  have HB1 := hid hb1
  have HR0 : Hid (Row2 KFd w1.heap.size w1 (.slice none 0 0) (othersF (ca, cb) (l.take 0)) (.slice none 0 0) (othersF (ca, cb) (l.take 0)) w1) := Row2.nil (Below.refl _ _) (Nat.le_refl _)
  have HVW : Hid (∀ W', Below w1.heap.size w1 W' → Below V.heap.size V W') := fun W' h => bel_then HB1.out HB1.out.size h
  clear hb1 HF
  go_wp2_with fail
  go_loopg [7, 8, 15] l.length (fun gg v7 v8 vi wr => ∃ (i : Nat) (p7 p8 : Option Addr) (q7 q8 : Nat), vi = .int .i64 i ∧ v7 = .slice p7 (othersF (ca, cb) (l.take i)).length q7 ∧ v8 = .slice p8 (othersF (ca, cb) (l.take i)).length q8 ∧ i ≤ l.length ∧ l.length - i ≤ gg ∧ Hid (Row2 KFd w1.heap.size w1 (.slice p7 (othersF (ca, cb) (l.take i)).length q7) (othersF (ca, cb) (l.take i)) (.slice p8 (othersF (ca, cb) (l.take i)).length q8) (othersF (ca, cb) (l.take i)) wr))
  case atStart => exact ⟨0, none, none, 0, 0, rfl, rfl, rfl, by omega, by omega, HR0.out⟩
  case round =>
    clear HR0
    obtain ⟨i, p7, p8, q7, q8, rfl, rfl, rfl, hi, hgk, HI⟩ := hrel
    by_cases hlt : i < l.length
    · have hltz : (i : Int) < (l.length : Int) := by omega
      have hiz : (0 : Int) ≤ i := by omega
      obtain ⟨b1, o1, rfl, k1⟩ : ∃ b off, p = some ⟨b, off, none⟩ ∧ KFd.At wr b off l := by
        obtain ⟨p2, c2, he, h⟩ := (HIN.out wr (HVW.out wr HI.out.a.bel)).2.2.1.is
        injection he with e1 _ _
        subst e1
        rcases h with h | h
        · rw [h] at hlt; simp at hlt
        · exact h
      obtain ⟨y0, y1, y2, y3, y4, y5, y6⟩ := kfd_at k1 i hlt
      have HTK : Hid (othersF (ca, cb) (l.take (i + 1)) = othersF (ca, cb) (l.take i) ++ (if (!decide (((l[i]).a, (l[i]).b) = (ca, cb))) = true then [l[i]] else [])) := by
        show _ = _
        unfold othersF
        rw [List.take_succ_eq_append_getElem hlt, List.filter_append, List.filter_cons, List.filter_nil]
      have hkl : (othersF (ca, cb) (l.take i)).length ≤ i := Nat.le_trans (List.length_filter_le _ _) (by rw [List.length_take]; omega)
      generalize l[i] = x at *
      generalize othersF (ca, cb) (l.take i) = A at *
      obtain ⟨T, hT⟩ : ∃ T, wr.alloc (.cells (encFd x).toArray 51) = T := ⟨_, rfl⟩
      obtain ⟨Q, hQ⟩ : ∃ Q, wr.heap.size = Q := ⟨_, rfl⟩
      obtain ⟨hbT, hTo, hTs⟩ := one_box wr (encFd x).toArray 51
      rw [hT] at hbT hTo hTs
      rw [hQ] at hTo hTs
      have HIT := hid (HI.out.on hbT)
      have HQN : Hid (w1.heap.size ≤ Q) := by rw [← hQ]; exact HI.out.a.base
      have HQ7 : Hid (∀ k, (Value.slice p7 A.length q7).ownBlock = some k → k ≠ Q) := fun k hk e => by
        have := (World.ownsRow.lt (show wr.ownsRow w1.heap.size KFd.T KFd.k (.slice p7 A.length q7) A.length (KFd.cells A) from HI.out.a.own) k hk).2
        omega
      have HQ8 : Hid (∀ k, (Value.slice p8 A.length q8).ownBlock = some k → k ≠ Q) := fun k hk e => by
        have := (World.ownsRow.lt (show wr.ownsRow w1.heap.size KFd.T KFd.k (.slice p8 A.length q8) A.length (KFd.cells A) from HI.out.b.own) k hk).2
        omega
      have HTO := hid hTo
      have hT1 : T.cell? ⟨Q, 0, none⟩ = some (.string x.a) ∧ T.cell? ⟨Q, 1, none⟩ = some (.string x.b) := ⟨by rw [Lib.cell_of_heap hTo]; rfl, by rw [Lib.cell_of_heap hTo]; rfl⟩
      obtain ⟨g0, g1⟩ := hT1
      have h2c := (HIN.out T (HVW.out T HIT.out.a.bel)).2.2.2.2
      obtain ⟨_, _, c0, c1, _⟩ := h2c
      obtain ⟨BK, hBK⟩ : ∃ b, decide ((x.a, x.b) = (ca, cb)) = b := ⟨_, rfl⟩
      have heq := fun W => Z.neq_key x.a x.b ca cb W
      rw [Z.eqK_iff (x.a, x.b) (ca, cb), hBK] at heq
      rw [hBK] at HTK
      clear k1 hbT hTo hTs HI hBK
      obtain ⟨xa, xb, xn, xs, xt, xl, xp, xc, xo⟩ := x
      simp only [encFd, encVx, Vx.sl] at *
      cases BK with
      | true =>
        simp only [Bool.not_true] at heq
        have HF : Hid (othersF (ca, cb) (l.take (i + 1)) = A) := by show _ = _; rw [HTK.out]; simp
        go_wp2_with fail
        try rw [hT]
        go_roundg (l.length - (i + 1))
        case measure => omega
        exact ⟨i + 1, p7, p8, q7, q8, by go_num, by rw [HF.out], by rw [HF.out], by omega, by omega, by rw [HF.out]; exact HIT.out⟩
      | false =>
        simp only [Bool.not_false] at heq
        go_upto_region 8 with fail
        try rw [hT]
        try rw [hQ]
        have HCQ : Hid (∀ W : World, W.heap[Q]? = some (.cells #[.string xa, .string xb, .int .i64 xn, .int .u64 xs, .int .i64 xt, .bool xl, .slice xp xo.length xc] 51 (0, 0)) → W.cell? ⟨Q, 0, none⟩ = some (.string xa) ∧ W.cell? ⟨Q, 1, none⟩ = some (.string xb) ∧ W.cell? ⟨Q, 2, none⟩ = some (.int .i64 xn) ∧ W.cell? ⟨Q, 3, none⟩ = some (.int .u64 xs) ∧ W.cell? ⟨Q, 4, none⟩ = some (.int .i64 xt) ∧ W.cell? ⟨Q, 5, none⟩ = some (.bool xl) ∧ W.cell? ⟨Q, 6, none⟩ = some (.slice xp xo.length xc)) := fun W hW => ⟨by rw [Lib.cell_of_heap hW]; rfl, by rw [Lib.cell_of_heap hW]; rfl, by rw [Lib.cell_of_heap hW]; rfl, by rw [Lib.cell_of_heap hW]; rfl, by rw [Lib.cell_of_heap hW]; rfl, by rw [Lib.cell_of_heap hW]; rfl, by rw [Lib.cell_of_heap hW]; rfl⟩
        have HTK2 : Hid (othersF (ca, cb) (l.take (i + 1)) = A ++ [⟨xa, xb, ⟨xn, xs, xt, xl, xp, xc, xo⟩⟩]) := by show _ = _; rw [HTK.out]; rfl
        have hTd : T.drew.heap[Q]? = some (.cells #[.string xa, .string xb, .int .i64 xn, .int .u64 xs, .int .i64 xt, .bool xl, .slice xp xo.length xc] 51 (0, 0)) := HTO.out
        have HRD : Hid (Row2 KFd w1.heap.size w1 (.slice p7 A.length q7) A (.slice p8 A.length q8) A T.drew) := HIT.out.on (bel_drewN (Below.refl _ _) 1)
        have hA1 : A.length + 1 ≤ 1599289640355 := by omega
        clear y0 y1 y2 y3 y4 y5 y6 g0 g1 c0 c1 heq hT HTK
        refine wp_region_held_drew (S := fun W => W.cell? ⟨Q, 0, none⟩ = some (.string xa) ∧ W.cell? ⟨Q, 1, none⟩ = some (.string xb) ∧ W.cell? ⟨Q, 2, none⟩ = some (.int .i64 xn) ∧ W.cell? ⟨Q, 3, none⟩ = some (.int .u64 xs) ∧ W.cell? ⟨Q, 4, none⟩ = some (.int .i64 xt) ∧ W.cell? ⟨Q, 5, none⟩ = some (.bool xl) ∧ W.cell? ⟨Q, 6, none⟩ = some (.slice xp xo.length xc)) (by kernel_rfl) (HCQ.out T.drew hTd) (fun hHeld => ?_)
        refine take_val (i := 0) (.slice p7 A.length q7) rfl (by kernel_rfl) (by kernel_rfl) (by kernel_rfl) (fun _ _ _ h => h) (by rfl) (fun w hSw => by go_simp) hHeld ?_
        simp only [Act.put, List.setIfInBounds_toArray, List.set_cons_zero, List.set_cons_succ]
        refine take_val (i := 1) (.agg #[.string xa, .string xb, .int .i64 xn, .int .u64 xs, .int .i64 xt, .bool xl, .slice xp xo.length xc]) rfl (by kernel_rfl) (by kernel_rfl) (by kernel_rfl) (fun _ _ _ h => h) (by rfl) (fun w hSw => by go_simp) hHeld ?_
        simp only [Act.put, List.setIfInBounds_toArray, List.set_cons_zero, List.set_cons_succ]
        refine take_val (i := 4) (.slice p8 A.length q8) rfl (by kernel_rfl) (by kernel_rfl) (by kernel_rfl) (fun _ _ _ h => h) (by rfl) (fun w hSw => by go_simp) hHeld ?_
        simp only [Act.put, List.setIfInBounds_toArray, List.set_cons_zero, List.set_cons_succ]
        refine take_val (i := 5) (.agg #[.string xa, .string xb, .int .i64 xn, .int .u64 xs, .int .i64 xt, .bool xl, .slice xp xo.length xc]) rfl (by kernel_rfl) (by kernel_rfl) (by kernel_rfl) (fun _ _ _ h => h) (by rfl) (fun w hSw => by go_simp) hHeld ?_
        simp only [Act.put, List.setIfInBounds_toArray, List.set_cons_zero, List.set_cons_succ]
        clear hHeld
        refine wpAnyH_floats [3, 7, 8, 9] [2, 6] (fun a0 k fl a w' => ∃ t1 t2 s1 s2 o7 o8, a = putS a0 [(27, t1), (31, t2), (26, s1), (30, s2), (7, o7), (8, o8)] ∧ Pu2 KFd 51 w1.heap.size w1 ⟨xa, xb, ⟨xn, xs, xt, xl, xp, xc, xo⟩⟩ A A (.slice p7 A.length q7) (.slice p8 A.length q8) k fl t1 t2 s1 s2 w' ∧ w'.heap[Q]? = some (.cells #[.string xa, .string xb, .int .i64 xn, .int .u64 xs, .int .i64 xt, .bool xl, .slice xp xo.length xc] 51 (0, 0)) ∧ (3 ≤ k → o7 = t1) ∧ (4 ≤ k → o8 = t2)) (by kernel_rfl) (by decide) ⟨_, _, _, _, _, _, (putS_self _ [27, 31, 26, 30, 7, 8]).symm, pu2_start _ _ _ _ HRD.out, hTd, (fun h => by omega), (fun h => by omega)⟩ ?hS ?hmain ?halloc ?hend
        case hS =>
          rintro k fl a w' ⟨t1, t2, s1, s2, o7, o8, _, _, hq, _⟩
          exact HCQ.out w' hq
        case hmain =>
          rintro k i' fl a w' hk hfl hrd ⟨t1, t2, s1, s2, o7, o8, rfl, hst, hq, ho7, ho8⟩
          obtain ⟨f1, f2, rfl⟩ : ∃ f1 f2, fl = [f1, f2] := by
            match fl, hfl with
            | [f1, f2], _ => exact ⟨f1, f2, rfl⟩
          rcases k with _ | _ | _ | _ | k
          · obtain rfl : i' = 3 := by simpa using hk.symm
            cases f1 with
            | false => exact (not_ready hrd (by cases f2 <;> kernel_rfl)).elim
            | true =>
              obtain ⟨Z1, rfl, hbx, hrow⟩ := pu2_row1 hst
              refine ⟨_, at_drop0 rfl, fun K hK => ?_⟩
              simp only [putS, List.foldl_cons, List.foldl_nil, Act.put, List.setIfInBounds_toArray, List.set_cons_zero, List.set_cons_succ]
              rw [if_pos (by rfl)]
              refine wp_push KFd rfl _ _ 46 rfl i0 _ 88 Try.underlying46 HI0.out hz0 hz1 hz2 rfl w1.heap.size w1 (.slice p7 A.length q7) A (by rfl) hrow ⟨xa, xb, ⟨xn, xs, xt, xl, xp, xc, xo⟩⟩ Z1 1 1 rfl (by rfl) 51 (0, 0) hbx (by unfold maxLen; omega) (by omega) ?_
              intro g cc w3 h1 h2 h3
              exact hK.out _ _ ⟨_, t2, _, s2, o7, o8, rfl, pu2_push1 hst h1 h2 h3, (h2.block Q (Array.getElem?_eq_some_iff.1 hq).1 (fun e => HQ7.out Q e.symm rfl)).trans hq, (fun h => by omega), (fun h => by omega)⟩
          · obtain rfl : i' = 7 := by simpa using hk.symm
            cases f2 with
            | false => exact (not_ready hrd (by cases f1 <;> kernel_rfl)).elim
            | true =>
              obtain ⟨Z2, rfl, hbx, hrow⟩ := pu2_row2 hst
              refine ⟨_, at_drop0 rfl, fun K hK => ?_⟩
              simp only [putS, List.foldl_cons, List.foldl_nil, Act.put, List.setIfInBounds_toArray, List.set_cons_zero, List.set_cons_succ]
              rw [if_pos (by rfl)]
              refine wp_push KFd rfl _ _ 46 rfl i0 _ 88 Try.underlying46 HI0.out hz0 hz1 hz2 rfl w1.heap.size w1 (.slice p8 A.length q8) A (by rfl) hrow ⟨xa, xb, ⟨xn, xs, xt, xl, xp, xc, xo⟩⟩ Z2 1 1 rfl (by rfl) 51 (0, 0) hbx (by unfold maxLen; omega) (by omega) ?_
              intro g cc w3 h1 h2 h3
              exact hK.out _ _ ⟨t1, _, s1, _, o7, o8, rfl, pu2_push2 hst h1 h2 h3, (h2.block Q (Array.getElem?_eq_some_iff.1 hq).1 (fun e => HQ8.out Q e.symm rfl)).trans hq, (fun h => by omega), (fun h => by omega)⟩
          · obtain rfl : i' = 8 := by simpa using hk.symm
            have HST2 := hid (pu2_more hst 3 (by omega))
            have HQ := hid hq
            clear hrd hst hq ho7 ho8
            refine ⟨_, at_drop0 rfl, fun K hK => ?_⟩
            simp only [putS, List.foldl_cons, List.foldl_nil, Act.put, List.setIfInBounds_toArray, List.set_cons_zero, List.set_cons_succ]
            rw [if_pos (by rfl)]
            go_simp
            go_wp2_with fail
            exact hK.out _ _ ⟨t1, t2, s1, s2, t1, o8, rfl, HST2.out, HQ.out, (fun _ => rfl), (fun h => by omega)⟩
          · obtain rfl : i' = 9 := by simpa using hk.symm
            have HST2 : Hid (Pu2 KFd 51 w1.heap.size w1 ⟨xa, xb, ⟨xn, xs, xt, xl, xp, xc, xo⟩⟩ A A (.slice p7 A.length q7) (.slice p8 A.length q8) 4 [f1, f2] t1 t2 s1 s2 w') := pu2_on hst (by omega) (by omega)
            have HQ := hid hq
            obtain rfl : o7 = t1 := ho7 (by omega)
            clear hrd hst hq ho7 ho8
            refine ⟨_, at_drop0 rfl, fun K hK => ?_⟩
            simp only [putS, List.foldl_cons, List.foldl_nil, Act.put, List.setIfInBounds_toArray, List.set_cons_zero, List.set_cons_succ]
            rw [if_pos (by rfl)]
            go_simp
            go_wp2_with fail
            exact hK.out _ _ ⟨_, t2, s1, s2, _, t2, rfl, HST2.out, HQ.out, (fun _ => rfl), (fun _ => rfl)⟩
          · simp at hk
        case halloc =>
          rintro j i' k fl a w' hj hk hfl hf ⟨t1, t2, s1, s2, o7, o8, rfl, hst, hq, ho7, ho8⟩
          obtain ⟨f1, f2, rfl⟩ : ∃ f1 f2, fl = [f1, f2] := by
            match fl, hfl with
            | [f1, f2], _ => exact ⟨f1, f2, rfl⟩
          have hql := (Array.getElem?_eq_some_iff.1 hq).1
          rcases j with _ | _ | j
          · obtain rfl : i' = 2 := by simpa using hj.symm
            obtain rfl : f1 = false := by simpa using hf
            have HST2 := hid (pu2_box1 hst)
            have HQ2 : Hid ((w'.alloc (.cells (KFd.enc ⟨xa, xb, ⟨xn, xs, xt, xl, xp, xc, xo⟩⟩).toArray 51)).heap[Q]? = some (.cells #[.string xa, .string xb, .int .i64 xn, .int .u64 xs, .int .i64 xt, .bool xl, .slice xp xo.length xc] 51 (0, 0))) := (((Below.refl _ _).alloc (Nat.le_refl _) _).block Q hql).trans hq
            have HO := hid (And.intro ho7 ho8)
            clear hst hf hj hk hq ho7 ho8
            refine ⟨_, at_drop0 rfl, fun K hK => ?_⟩
            simp only [putS, List.foldl_cons, List.foldl_nil, Act.put, List.setIfInBounds_toArray, List.set_cons_zero, List.set_cons_succ]
            rw [if_pos (by rfl)]
            go_simp
            go_wp2_with fail
            exact hK.out _ _ ⟨t1, t2, _, s2, o7, o8, rfl, HST2.out, HQ2.out, HO.out.1, HO.out.2⟩
          · obtain rfl : i' = 6 := by simpa using hj.symm
            obtain rfl : f2 = false := by simpa using hf
            have HST2 := hid (pu2_box2 hst)
            have HQ2 : Hid ((w'.alloc (.cells (KFd.enc ⟨xa, xb, ⟨xn, xs, xt, xl, xp, xc, xo⟩⟩).toArray 51)).heap[Q]? = some (.cells #[.string xa, .string xb, .int .i64 xn, .int .u64 xs, .int .i64 xt, .bool xl, .slice xp xo.length xc] 51 (0, 0))) := (((Below.refl _ _).alloc (Nat.le_refl _) _).block Q hql).trans hq
            have HO := hid (And.intro ho7 ho8)
            clear hst hf hj hk hq ho7 ho8
            refine ⟨_, at_drop0 rfl, fun K hK => ?_⟩
            simp only [putS, List.foldl_cons, List.foldl_nil, Act.put, List.setIfInBounds_toArray, List.set_cons_zero, List.set_cons_succ]
            rw [if_pos (by rfl)]
            go_simp
            go_wp2_with fail
            exact hK.out _ _ ⟨t1, t2, s1, _, o7, o8, rfl, HST2.out, HQ2.out, HO.out.1, HO.out.2⟩
          · simp at hj
        case hend =>
          rintro a w3 ⟨t1, t2, s1, s2, o7, o8, rfl, hst, hq, ho7, ho8⟩
          obtain rfl : o7 = t1 := ho7 (by decide)
          obtain rfl : o8 = t2 := ho8 (by decide)
          have hr3 := pu2_end hst (by decide)
          obtain ⟨pa, qa, rfl⟩ := Kind.own_shape hr3.a.own
          obtain ⟨pb, qb, rfl⟩ := Kind.own_shape hr3.b.own
          have HR3 := hid hr3
          clear hst hq ho7 ho8 hr3
          simp only [putS, List.foldl_cons, List.foldl_nil, Act.put, List.setIfInBounds_toArray, List.set_cons_zero, List.set_cons_succ]
          go_wp2_with fail
          go_roundg (l.length - (i + 1))
          case measure => omega
          exact ⟨i + 1, pa, pb, qa, qb, by go_num, by rw [HTK2.out], by rw [HTK2.out], by omega, by omega, by rw [HTK2.out]; exact HR3.out⟩
    · have hltz : ¬ (i : Int) < (l.length : Int) := by omega
      have hti : l.take i = l := List.take_of_length_le (by omega)
      rw [hti] at HI ⊢
      have hkl : (othersF (ca, cb) l).length ≤ l.length := List.length_filter_le _ _
      have HAE : Hid (∀ x ∈ othersF (ca, cb) l, x ∈ l) := fun x hx => (List.mem_filter.1 hx).1
      generalize othersF (ca, cb) l = A at *
      have HCE : Hid (∀ W, Below w1.heap.size w1 W → W.cell? ⟨M, 0, none⟩ = some (.string rt) ∧ W.cell? ⟨M, 1, none⟩ = some (.slice rp rm.length rc) ∧ W.cell? ⟨M + 1, 0, none⟩ = some (.string ca) ∧ W.cell? ⟨M + 1, 1, none⟩ = some (.string cb) ∧ W.cell? ⟨M + 1, 2, none⟩ = some (.bool wl) ∧ W.cell? ⟨M + 1, 3, none⟩ = some (.slice wp wo.length wc) ∧ W.cell? ⟨M + 1, 4, none⟩ = some (.bool il) ∧ W.cell? ⟨M + 1, 5, none⟩ = some (.slice ip io.length ic)) := fun W hW => (HIN.out W (HVW.out W hW)).2.2.2.2
      have HBW : Hid (∀ W, Below w1.heap.size w1 W → Below w.heap.size w W) := fun W hW => (HIN.out W (HVW.out W hW)).2.2.2.1
      have HEL : Hid (∀ W, Below w1.heap.size w1 W → ∀ x : Fd, (x ∈ A ∨ x = ⟨ca, cb, ⟨0, 0, 0, wl, wp, wc, wo⟩⟩ ∨ x = ⟨ca, cb, ⟨0, 0, 0, il, ip, ic, io⟩⟩) → x.v.at W ∧ FitX x.v.o) := fun W hW x hx => by
        obtain ⟨h1, h2, h3⟩ := HEA.out W (HVW.out W hW)
        rcases hx with hx | rfl | rfl
        · exact h1 x (HAE.out x hx)
        · exact h2
        · exact h3
      obtain ⟨W1, hW1⟩ : ∃ W1, wr.alloc (.cells #[.string ca, .string cb, .int .i64 0, .int .u64 0, .int .i64 0, .bool wl, .slice wp wo.length wc] 51) = W1 := ⟨_, rfl⟩
      have hb1 : Below wr.heap.size wr W1 := by rw [← hW1]; exact (Below.refl _ _).alloc (Nat.le_refl _) _
      have HN1 : Hid (W1.heap[wr.heap.size]? = some (.cells #[.string ca, .string cb, .int .i64 0, .int .u64 0, .int .i64 0, .bool wl, .slice wp wo.length wc] 51 (0, 0))) := by rw [← hW1]; exact heap_alloc_new wr _
      have HR1 := hid (HI.out.on hb1)
      have hbr := HI.out.a.bel
      obtain ⟨_, _, c0, c1, c2, c3, c4, c5⟩ := HCE.out wr hbr
      clear hb1 HI hbr
      go_upto_region 11 with (at_builtin; refine wpList_push KFd rfl _ _ 46 rfl i0 _ 88 Try.underlying46 HI0.out hz0 hz1 hz2 rfl w1.heap.size w1 _ A rfl HR1.out.a ⟨ca, cb, ⟨0, 0, 0, wl, wp, wc, wo⟩⟩ _ _ _ rfl rfl _ _ HN1.out (by unfold maxLen; omega) (by omega) ?_; intro g2 q2 w2 hst2 hg2 hat2; have HR2 := hid (HR1.out.pushed hst2 hg2 hat2); have hce := HCE.out w2 hst2.bel; have d0 := hce.2.2.1; have d1 := hce.2.2.2.1; have d2 := hce.2.2.2.2.1; have d3 := hce.2.2.2.2.2.1; have d4 := hce.2.2.2.2.2.2.1; have d5 := hce.2.2.2.2.2.2.2; clear hce hst2 hg2 hat2)
      clear c0 c1 c2 c3 c4 c5 hW1 HN1 HR1
      obtain ⟨W3, hW3⟩ : ∃ W3, w2.alloc (.cells #[.string ca, .string cb, .int .i64 0, .int .u64 0, .int .i64 0, .bool il, .slice ip io.length ic] 51) = W3 := ⟨_, rfl⟩
      have hb3 : Below w2.heap.size w2 W3 := by rw [← hW3]; exact (Below.refl _ _).alloc (Nat.le_refl _) _
      have HN3 : Hid (W3.heap[w2.heap.size]? = some (.cells #[.string ca, .string cb, .int .i64 0, .int .u64 0, .int .i64 0, .bool il, .slice ip io.length ic] 51 (0, 0))) := by rw [← hW3]; exact heap_alloc_new w2 _
      have HR3 := hid (HR2.out.on hb3)
      clear hb3 HR2
      go_upto_region 12 with (at_builtin; refine wpList_push KFd rfl _ _ 46 rfl i0 _ 88 Try.underlying46 HI0.out hz0 hz1 hz2 rfl w1.heap.size w1 _ A rfl HR3.out.b ⟨ca, cb, ⟨0, 0, 0, il, ip, ic, io⟩⟩ _ _ _ rfl rfl _ _ HN3.out (by unfold maxLen; omega) (by omega) ?_; intro g4 q4 w4 hst4 hg4 hat4; have HR4 := hid (HR3.out.turn.pushed hst4 hg4 hat4); clear hst4 hg4 hat4)
      clear d0 d1 d2 d3 d4 d5 hW3 HN3 HR3
      have HA1 : Hid (FdInAll w1 w4 (.slice (some ⟨g2, 0, none⟩) (A.length + 1) q2) (A ++ [⟨ca, cb, ⟨0, 0, 0, wl, wp, wc, wo⟩⟩])) := fun W hW => ⟨Kind.is_kept (Kind.own_is HR4.out.b.own) hW, fun x hx => HEL.out W (HR4.out.a.bel.trans (hW.mono HR4.out.a.base)) x (by
        rcases List.mem_append.1 hx with h | h
        · exact Or.inl h
        · exact Or.inr (Or.inl (List.mem_singleton.1 h)))⟩
      have HA2 : Hid (FdInAll w1 w4 (.slice (some ⟨g4, 0, none⟩) (A.length + 1) q4) (A ++ [⟨ca, cb, ⟨0, 0, 0, il, ip, ic, io⟩⟩])) := fun W hW => ⟨Kind.is_kept (Kind.own_is HR4.out.a.own) hW, fun x hx => HEL.out W (HR4.out.a.bel.trans (hW.mono HR4.out.a.base)) x (by
        rcases List.mem_append.1 hx with h | h
        · exact Or.inl h
        · exact Or.inr (Or.inr (List.mem_singleton.1 h)))⟩
      have HW4 : Hid (∀ W, Below w4.heap.size w4 W → Below w1.heap.size w1 W) := fun W hW => HR4.out.a.bel.trans (hW.mono HR4.out.a.base)
      have hlx : A.length + 1 ≤ 1599289640356 := by omega
      refine wp_region_held_drew (S := fun W => W.cell? ⟨M, 0, none⟩ = some (.string rt) ∧ W.cell? ⟨M, 1, none⟩ = some (.slice rp rm.length rc) ∧ W.cell? ⟨M + 1, 0, none⟩ = some (.string ca) ∧ W.cell? ⟨M + 1, 1, none⟩ = some (.string cb) ∧ W.cell? ⟨M + 1, 2, none⟩ = some (.bool wl) ∧ W.cell? ⟨M + 1, 3, none⟩ = some (.slice wp wo.length wc) ∧ W.cell? ⟨M + 1, 4, none⟩ = some (.bool il) ∧ W.cell? ⟨M + 1, 5, none⟩ = some (.slice ip io.length ic)) (by kernel_rfl) (HCE.out w4.drew (HW4.out _ (bel_drewN (Below.refl _ _) 1))) (fun hHeld => ?_)
      refine take_val (i := 0) (.agg #[.string rt, .slice rp rm.length rc]) rfl (by kernel_rfl) (by kernel_rfl) (by kernel_rfl) (fun _ _ _ h => h) (by rfl) (fun w hSw => by go_simp) hHeld ?_
      simp only [Act.put, List.setIfInBounds_toArray, List.set_cons_zero, List.set_cons_succ]
      refine take_val (i := 1) (.agg #[.string ca, .string cb, .bool wl, .slice wp wo.length wc, .bool il, .slice ip io.length ic]) rfl (by kernel_rfl) (by kernel_rfl) (by kernel_rfl) (fun _ _ _ h => h) (by rfl) (fun w hSw => by go_simp) hHeld ?_
      simp only [Act.put, List.setIfInBounds_toArray, List.set_cons_zero, List.set_cons_succ]
      clear hHeld
      refine wpAnyH_ready (rs := [2]) (by kernel_rfl) (by simp) ?_
      refine AllReadyH.cons (at_drop0 rfl) (fun K hK => ?_) AllReadyH.nil
      rw [if_pos (by rfl)]
      go_simp
      refine (HTP.out w4.drew (HVW.out _ (HW4.out _ (bel_drewN (Below.refl _ _) 1)))).mono ?_
      rintro e z1 ⟨rfl, hb1⟩
      have HZ1 : Hid (Below w4.heap.size w4 z1) := (bel_drewN (Below.refl w4.heap.size w4) 1).trans hb1
      clear hb1
      cases BT with
      | true =>
        go_wp2_with fail
        refine hK.out _ _ ((HCE.out z1 (HW4.out z1 HZ1.out))) (fun hHeld => ?_)
        clear hK K
        try simp only [Act.put, List.setIfInBounds_toArray, List.set_cons_zero, List.set_cons_succ]
        refine take_val (i := 3) (.bool true) rfl (by kernel_rfl) (by kernel_rfl) (by kernel_rfl) (fun _ _ _ h => h) (by rfl) (fun w hSw => by go_simp) hHeld ?_
        simp only [Act.put, List.setIfInBounds_toArray, List.set_cons_zero, List.set_cons_succ]
        refine take_not (i := 4) rfl (by kernel_rfl) (by kernel_rfl) (by kernel_rfl) (fun _ _ _ h => h) (by rfl) hHeld ?_
        simp only [Act.put, List.setIfInBounds_toArray, List.set_cons_zero, List.set_cons_succ]
        refine take_not (i := 5) rfl (by kernel_rfl) (by kernel_rfl) (by kernel_rfl) (fun _ _ _ h => h) (by rfl) hHeld ?_
        simp only [Act.put, List.setIfInBounds_toArray, List.set_cons_zero, List.set_cons_succ]
        refine take_not (i := 6) rfl (by kernel_rfl) (by kernel_rfl) (by kernel_rfl) (fun _ _ _ h => h) (by rfl) hHeld ?_
        simp only [Act.put, List.setIfInBounds_toArray, List.set_cons_zero, List.set_cons_succ]
        refine take_not (i := 7) rfl (by kernel_rfl) (by kernel_rfl) (by kernel_rfl) (fun _ _ _ h => h) (by rfl) hHeld ?_
        simp only [Act.put, List.setIfInBounds_toArray, List.set_cons_zero, List.set_cons_succ]
        refine take_not (i := 8) rfl (by kernel_rfl) (by kernel_rfl) (by kernel_rfl) (fun _ _ _ h => h) (by rfl) hHeld ?_
        simp only [Act.put, List.setIfInBounds_toArray, List.set_cons_zero, List.set_cons_succ]
        refine take_not (i := 9) rfl (by kernel_rfl) (by kernel_rfl) (by kernel_rfl) (fun _ _ _ h => h) (by rfl) hHeld ?_
        simp only [Act.put, List.setIfInBounds_toArray, List.set_cons_zero, List.set_cons_succ]
        refine take_not (i := 10) rfl (by kernel_rfl) (by kernel_rfl) (by kernel_rfl) (fun _ _ _ h => h) (by rfl) hHeld ?_
        simp only [Act.put, List.setIfInBounds_toArray, List.set_cons_zero, List.set_cons_succ]
        refine take_val (i := 11) (.bool true) rfl (by kernel_rfl) (by kernel_rfl) (by kernel_rfl) (fun _ _ _ h => h) (by rfl) (fun w hSw => by go_simp) hHeld ?_
        simp only [Act.put, List.setIfInBounds_toArray, List.set_cons_zero, List.set_cons_succ]
        refine take_val (i := 12) (.bool true) rfl (by kernel_rfl) (by kernel_rfl) (by kernel_rfl) (fun _ _ _ h => h) (by rfl) (fun w hSw => by go_simp) hHeld ?_
        simp only [Act.put, List.setIfInBounds_toArray, List.set_cons_zero, List.set_cons_succ]
        refine wpAnyH_done (by kernel_rfl) ?_ _
        clear hHeld
        have HE := hid (HBW.out z1 (HW4.out z1 HZ1.out))
        go_wp2_with fail
        go_ret
        exact ⟨rfl, HE.out⟩
      | false =>
        obtain ⟨L1, hL1⟩ : ∃ L1, (A ++ [(⟨ca, cb, ⟨0, 0, 0, wl, wp, wc, wo⟩⟩ : Fd)]).filter TK = L1 := ⟨_, rfl⟩
        obtain ⟨L2, hL2⟩ : ∃ L2, (A ++ [(⟨ca, cb, ⟨0, 0, 0, il, ip, ic, io⟩⟩ : Fd)]).filter TK = L2 := ⟨_, rfl⟩
        have HSA : Hid (L1 = L2) := by show _ = _; rw [← hL1, ← hL2]; exact HSM.out rfl A
        have hL1l : L1.length ≤ A.length + 1 := by
          have := List.length_filter_le TK (A ++ [(⟨ca, cb, ⟨0, 0, 0, wl, wp, wc, wo⟩⟩ : Fd)])
          rw [hL1, List.length_append, List.length_singleton] at this
          exact this
        have HL1 : Hid (∀ x ∈ L1, x ∈ A ++ [(⟨ca, cb, ⟨0, 0, 0, wl, wp, wc, wo⟩⟩ : Fd)]) := fun x hx => by rw [← hL1] at hx; exact (List.mem_filter.1 hx).1
        have HL2 : Hid (∀ x ∈ L2, x ∈ A ++ [(⟨ca, cb, ⟨0, 0, 0, il, ip, ic, io⟩⟩ : Fd)]) := fun x hx => by rw [← hL2] at hx; exact (List.mem_filter.1 hx).1
        have hla1 : (A ++ [(⟨ca, cb, ⟨0, 0, 0, wl, wp, wc, wo⟩⟩ : Fd)]).length ≤ 1599289640356 := by rw [List.length_append, List.length_singleton]; exact hlx
        have hla2 : (A ++ [(⟨ca, cb, ⟨0, 0, 0, il, ip, ic, io⟩⟩ : Fd)]).length ≤ 1599289640356 := by rw [List.length_append, List.length_singleton]; exact hlx
        have H6 := hid (HSE.out z1 _ _ (HVW.out z1 (HW4.out z1 HZ1.out)) (HA1.out z1 HZ1.out) hla1)
        rw [hL1] at H6
        have HC9 : Hid (∀ W, Below w4.heap.size w4 W → Calls Try.prog 26 #[.agg #[.string rt, .slice rp rm.length rc], .slice (some ⟨g4, 0, none⟩) (A.length + 1) q4] W fun e w' => SeenPost W L2 e w') := fun W hW => by
          have := HSE.out W _ _ (HVW.out W (HW4.out W hW)) (HA2.out W hW) hla2
          rwa [hL2] at this
        clear hL1 hL2 hla1 hla2
        go_wp2_with fail
        refine hK.out _ _ ((HCE.out z1 (HW4.out z1 HZ1.out))) (fun hHeld => ?_)
        clear hK K
        try simp only [Act.put, List.setIfInBounds_toArray, List.set_cons_zero, List.set_cons_succ]
        refine take_val (i := 3) (.bool false) rfl (by kernel_rfl) (by kernel_rfl) (by kernel_rfl) (fun _ _ _ h => h) (by rfl) (fun w hSw => by go_simp) hHeld ?_
        simp only [Act.put, List.setIfInBounds_toArray, List.set_cons_zero, List.set_cons_succ]
        refine take_val (i := 4) (.agg #[.string rt, .slice rp rm.length rc]) rfl (by kernel_rfl) (by kernel_rfl) (by kernel_rfl) (fun _ _ _ h => h) (by rfl) (fun w hSw => by go_simp) hHeld ?_
        simp only [Act.put, List.setIfInBounds_toArray, List.set_cons_zero, List.set_cons_succ]
        refine take_val (i := 5) (.slice (some ⟨g2, 0, none⟩) (A.length + 1) q2) rfl (by kernel_rfl) (by kernel_rfl) (by kernel_rfl) (fun _ _ _ h => h) (by rfl) (fun w hSw => by go_simp) hHeld ?_
        simp only [Act.put, List.setIfInBounds_toArray, List.set_cons_zero, List.set_cons_succ]
        refine take_val (i := 7) (.agg #[.string rt, .slice rp rm.length rc]) rfl (by kernel_rfl) (by kernel_rfl) (by kernel_rfl) (fun _ _ _ h => h) (by rfl) (fun w hSw => by go_simp) hHeld ?_
        simp only [Act.put, List.setIfInBounds_toArray, List.set_cons_zero, List.set_cons_succ]
        refine take_val (i := 8) (.slice (some ⟨g4, 0, none⟩) (A.length + 1) q4) rfl (by kernel_rfl) (by kernel_rfl) (by kernel_rfl) (fun _ _ _ h => h) (by rfl) (fun w hSw => by go_simp) hHeld ?_
        simp only [Act.put, List.setIfInBounds_toArray, List.set_cons_zero, List.set_cons_succ]
        clear hHeld
        refine wpAnyH_ready (rs := [6]) (by kernel_rfl) (by simp) ?_
        refine AllReadyH.cons (at_drop0 rfl) (fun K hK => ?_) AllReadyH.nil
        rw [if_pos (by rfl)]
        go_simp
        refine H6.out.mono ?_
        rintro e z2 ⟨px, qx, rfl, hs2⟩
        have HZ2 : Hid (Below w4.heap.size w4 z2) := bel_then HZ1.out HZ1.out.size hs2.bel
        have H9 := hid (HC9.out z2 HZ2.out)
        have HS2 := hid hs2
        clear hs2 H6
        go_wp2_with fail
        refine hK.out _ _ ((HCE.out z2 (HW4.out z2 HZ2.out))) (fun hHeld => ?_)
        clear hK K
        try simp only [Act.put, List.setIfInBounds_toArray, List.set_cons_zero, List.set_cons_succ]
        clear hHeld
        refine wpAnyH_ready (rs := [9]) (by kernel_rfl) (by simp) ?_
        refine AllReadyH.cons (at_drop0 rfl) (fun K hK => ?_) AllReadyH.nil
        rw [if_pos (by rfl)]
        go_simp
        refine H9.out.mono ?_
        rintro e z3 ⟨py, qy, rfl, hs3⟩
        have HZ3 : Hid (Below w4.heap.size w4 z3) := bel_then HZ2.out HZ2.out.size hs3.bel
        have H10 : Hid (Calls Try.prog 25 #[.slice px L1.length qx, .slice py L2.length qy] z3 fun r w' => r = .returned (.bool true) ∧ Below z3.heap.size z3 w') := by
          have := sameFd_any _ _ L1 L2 z3 (Kind.is_kept (Kind.own_is HS2.out.own) hs3.bel) (Kind.own_is hs3.own) (fun x hx => (HA1.out z3 HZ3.out).each x (HL1.out x hx)) (fun x hx => (HA2.out z3 HZ3.out).each x (HL2.out x hx)) (by unfold maxLen; omega)
          rw [decide_eq_true (congrArg (List.map Fd.fnd) HSA.out)] at this
          exact this
        clear hs3 H9
        go_wp2_with fail
        refine hK.out _ _ ((HCE.out z3 (HW4.out z3 HZ3.out))) (fun hHeld => ?_)
        clear hK K
        try simp only [Act.put, List.setIfInBounds_toArray, List.set_cons_zero, List.set_cons_succ]
        clear hHeld
        refine wpAnyH_ready (rs := [10]) (by kernel_rfl) (by simp) ?_
        refine AllReadyH.cons (at_drop0 rfl) (fun K hK => ?_) AllReadyH.nil
        rw [if_pos (by rfl)]
        go_simp
        refine H10.out.mono ?_
        rintro e z4 ⟨rfl, hb4⟩
        have HZ4 : Hid (Below w4.heap.size w4 z4) := bel_then HZ3.out HZ3.out.size hb4
        clear hb4 H10
        go_wp2_with fail
        refine hK.out _ _ ((HCE.out z4 (HW4.out z4 HZ4.out))) (fun hHeld => ?_)
        clear hK K
        try simp only [Act.put, List.setIfInBounds_toArray, List.set_cons_zero, List.set_cons_succ]
        refine take_val (i := 11) (.bool true) rfl (by kernel_rfl) (by kernel_rfl) (by kernel_rfl) (fun _ _ _ h => h) (by rfl) (fun w hSw => by go_simp) hHeld ?_
        simp only [Act.put, List.setIfInBounds_toArray, List.set_cons_zero, List.set_cons_succ]
        refine take_val (i := 12) (.bool true) rfl (by kernel_rfl) (by kernel_rfl) (by kernel_rfl) (fun _ _ _ h => h) (by rfl) (fun w hSw => by go_simp) hHeld ?_
        simp only [Act.put, List.setIfInBounds_toArray, List.set_cons_zero, List.set_cons_succ]
        refine wpAnyH_done (by kernel_rfl) ?_ _
        clear hHeld
        have HE := hid (HBW.out z4 (HW4.out z4 HZ4.out))
        go_wp2_with fail
        go_ret
        exact ⟨rfl, HE.out⟩

end Go.Proofs.Ythdakljoabbghaa

/-
  The laws of stage 12: the chapter's examples, as data.
-/
namespace Go.Proofs.Ythdakljoabbghaa
open Go.RowKit

def gmA : ByteArray := ⟨#[65]⟩
def gma : Ky := (⟨#[65]⟩, ⟨#[97]⟩)
def gmt : Tm := (⟨#[110]⟩, 1, ⟨#[120]⟩)
def gmX : List Fld := [(⟨#[110]⟩, [⟨#[120]⟩])]
def gmY : List Fld := [(⟨#[110]⟩, [⟨#[121]⟩])]
def gmR : Rg := (⟨#[65]⟩, [gmt])
def gmC : Ch := ⟨gma, true, gmX, true, gmY⟩
def gmD : Ch := ⟨gma, false, [], true, gmY⟩
def gmM : Mk := ([gma], [gmR])
theorem gm_tc : touchesM gmR gmC = true := by decide +kernel
theorem gm_td : touchesM gmR gmD = false := by decide +kernel
theorem gm_key : keyM ([], []) gma = ([gma], []) := by rfl
theorem gm_range : rangeM ([gma], []) gmR = gmM := by rfl
theorem gm_hits : hitsM gmM [gmD] = true := by decide
theorem gm_hitc : hitM gmM gmC = true := by decide
theorem gm_which : whichM gmM [gmC] = [gma] := by
  unfold whichM
  rw [List.foldl_cons, if_pos gm_hitc]
  rfl
theorem gm_union : unionM gmM gmM = gmM := by
  have h1 : gmM.1.foldl (fun acc k => insR ltKy k acc) (sortK gmM.1) = gmM.1 := by
    refine rising_uniqR totK (inss_spec _ _ (sortK_spec _).1).1 (List.pairwise_singleton _ _) fun z => ?_
    rw [(inss_spec _ _ (sortK_spec _).1).2, (sortK_spec _).2]
    simp
  have h2 : gmM.2.foldl putR (gmM.2.foldl putR []) = gmM.2 := by
    show putR (putR [] gmR) gmR = [gmR]
    have e : putR [] gmR = [gmR] := rfl
    rw [e]
    unfold putR
    rw [if_pos (by simp)]
  unfold unionM
  rw [h1, h2]
theorem gm_ne : decide (gmM = (([], []) : Mk)) = false := decide_eq_false fun h => by
  have := congrArg (fun m : Mk => m.1.length) h
  simp [gmM] at this
theorem gm_fit : FitKy12 gma := ⟨by decide, by decide⟩

end Go.Proofs.Ythdakljoabbghaa

/-
  The laws of stage 12: the chapter's examples, walked.
-/
namespace Go.Proofs.Ythdakljoabbghaa
open Go.RowKit

/-- The field n with one text, as it lies. -/
def gmF (t : ByteArray) (b : Nat) : List Fx := [⟨⟨#[110]⟩, some ⟨b, 0, none⟩, 1, [t]⟩]
theorem gmf_is {W : World} {t : ByteArray} {b c : Nat} (h1 : W.heap[c]? = some (.cells #[.string ⟨#[110]⟩, .slice (some ⟨b, 0, none⟩) 1 1] 64 (0, 0))) (h2 : W.heap[b]? = some (.cells #[.string t] 9 (0, 0))) : IsXs W (.slice (some ⟨c, 0, none⟩) 1 1) (gmF t b) := by
  refine ⟨_, _, rfl, Or.inr ⟨_, _, rfl, fun i hi => ?_⟩, fun x hx => ?_⟩
  · have hi' : i = 0 := by simpa [gmF] using hi
    subst hi'
    exact ⟨by rw [Lib.cell_of_heap h1]; rfl, by rw [Lib.cell_of_heap h1]; rfl⟩
  · rw [gmF, List.mem_singleton] at hx
    subst hx
    refine Or.inr ⟨_, _, rfl, fun i hi => ?_⟩
    have hi' : i = 0 := by simpa using hi
    subst hi'
    rw [Lib.cell_of_heap h2]; rfl
theorem gmf_cp (t : ByteArray) (b : Nat) : CopyX (gmF t b) := by
  refine ⟨by simp [gmF], fun x hx => ?_⟩
  rw [gmF, List.mem_singleton] at hx
  subst hx
  show 1 * 16 ≤ _
  omega
theorem copyX_nil : CopyX [] := ⟨by simp, fun x hx => by cases hx⟩
theorem gmf_fit (t : ByteArray) (b : Nat) (h : t.size ≤ 1) : FitX (gmF t b) := by
  refine ⟨by unfold maxLen; simp [gmF], fun x hx => ?_⟩
  rw [gmF, List.mem_singleton] at hx
  subst hx
  refine ⟨show (⟨#[110]⟩ : ByteArray).size ≤ maxLen by decide, show [t].length ≤ maxLen by unfold maxLen; simp, fun t' ht => ?_⟩
  have e : t' = t := by simpa [Fx.fld] using ht
  subst e
  unfold maxLen
  omega

/-- The nine blocks that are laid first. -/
def gmBlocks (N : Nat) : List (Array Value × TypeId) := [
  (#[.string ⟨#[120]⟩], 9), (#[.string ⟨#[110]⟩, .slice (some ⟨N, 0, none⟩) 1 1], 64),
  (#[.string ⟨#[121]⟩], 9), (#[.string ⟨#[110]⟩, .slice (some ⟨N + 2, 0, none⟩) 1 1], 64),
  (#[.string ⟨#[65]⟩, .string ⟨#[97]⟩], 27),
  (#[.string ⟨#[110]⟩, .int .i64 1, .string ⟨#[120]⟩], 58), (#[.string ⟨#[65]⟩, .slice (some ⟨N + 5, 0, none⟩) 1 1], 34),
  (#[.string ⟨#[65]⟩, .string ⟨#[97]⟩, .bool true, .slice (some ⟨N + 1, 0, none⟩) 1 1, .bool true, .slice (some ⟨N + 3, 0, none⟩) 1 1], 43),
  (#[.string ⟨#[65]⟩, .string ⟨#[97]⟩, .bool false, .slice none 0 0, .bool true, .slice (some ⟨N + 3, 0, none⟩) 1 1], 43)]
/-- Blocks laid one behind the other. -/
def laidB (w : World) (l : List (Array Value × TypeId)) : World := l.foldl (fun w x => w.alloc (.cells x.1 x.2)) w
theorem laidB_spec : ∀ (l : List (Array Value × TypeId)) (w : World), Below w.heap.size w (laidB w l) ∧ (laidB w l).heap.size = w.heap.size + l.length ∧ ∀ i (h : i < l.length), (laidB w l).heap[w.heap.size + i]? = some (.cells (l[i]).1 (l[i]).2 (0, 0))
  | [], w => ⟨Below.refl _ _, rfl, fun i h => by simp at h⟩
  | x :: r, w => by
    obtain ⟨h1, h2, h3⟩ := laidB_spec r (w.alloc (.cells x.1 x.2))
    have hs : (w.alloc (.cells x.1 x.2)).heap.size = w.heap.size + 1 := by simp
    have hb : Below w.heap.size w (w.alloc (.cells x.1 x.2)) := (Below.refl _ _).alloc (Nat.le_refl _) _
    have e : laidB w (x :: r) = laidB (w.alloc (.cells x.1 x.2)) r := rfl
    rw [e]
    refine ⟨bel_then hb (by omega) h1, by rw [h2, hs, List.length_cons]; omega, fun i h => ?_⟩
    cases i with
    | zero =>
      rw [Nat.add_zero, h1.block _ (by omega)]
      exact heap_alloc_new w _
    | succ i =>
      have := h3 i (by simpa using h)
      rw [hs] at this
      rw [show w.heap.size + (i + 1) = w.heap.size + 1 + i by omega]
      exact this

/-- The state between the calls of 'm := marks.Range(marks.Key(..), ..)'. -/
def GmSt (V : World) (k : Nat) (fl : List Bool) (v27 v30 v7 : Value) (w : World) : Prop := ∃ (B : Nat) (m1 m : Mx), Below V.heap.size V w ∧ (k = 3 → fl = [true]) ∧
  (fl = [true] → v7 = .pointer (some ⟨B, 0, none⟩) ∧ V.heap.size ≤ B ∧ w.heap[B]? = some (.cells (if k = 3 then (encMx m).toArray else #[.slice none 0 0, .slice none 0 0]) 25 (0, 0))) ∧
  (1 ≤ k → v27 = .agg (encMx m1).toArray ∧ m1.mk' = ([gma], []) ∧ ∀ w', Fr (fun b => fl = [true] ∧ b = B) w w' → MIn w' m1) ∧
  (2 ≤ k → v30 = .agg (encMx m).toArray ∧ m.mk' = gmM ∧ ∀ w', Fr (fun b => fl = [true] ∧ b = B) w w' → MIn w' m)

theorem gmSt_start {V w : World} (v27 v30 v7 : Value) (h : Below V.heap.size V w) : GmSt V 0 [false] v27 v30 v7 w :=
  ⟨0, default, default, h, (fun h => by omega), (fun h => by cases h), (fun h => by omega), (fun h => by omega)⟩
theorem gmSt_key {V w w2 : World} {fl : List Bool} {v27 v30 v7 : Value} {m2 : Mx} (h : GmSt V 0 fl v27 v30 v7 w) (ho : MOwn w.heap.size w2 m2) (hk : m2.mk' = ([gma], [])) (hb2 : Below w.heap.size w w2) : GmSt V 1 fl (.agg (encMx m2).toArray) v30 v7 w2 := by
  obtain ⟨B, m1, m, hb, hg3, hbox, hm1, hm⟩ := h
  exact ⟨B, m2, m, bel_then hb hb.size hb2, (fun h => by omega), (fun h => by
    obtain ⟨h1, h2, h3⟩ := hbox h
    exact ⟨h1, h2, (hb2.block B (Array.getElem?_eq_some_iff.1 h3).1).trans h3⟩), (fun _ => ⟨rfl, hk, fun w3 f => (ho.fr f fun k hk => by
      obtain ⟨h, rfl⟩ := hk
      exact (Array.getElem?_eq_some_iff.1 (hbox h).2.2).1).inn⟩), (fun h => by omega)⟩
theorem gmSt_range {V w w2 : World} {fl : List Bool} {v27 v30 v7 : Value} {m2 : Mx} (h : GmSt V 1 fl v27 v30 v7 w) (ho : MOwn w.heap.size w2 m2) (hk : m2.mk' = gmM) (hb2 : Below w.heap.size w w2) : GmSt V 2 fl v27 (.agg (encMx m2).toArray) v7 w2 := by
  obtain ⟨B, m1, m, hb, hg3, hbox, hm1, hm⟩ := h
  exact ⟨B, m1, m2, bel_then hb hb.size hb2, (fun h => by omega), (fun h => by
    obtain ⟨h1, h2, h3⟩ := hbox h
    exact ⟨h1, h2, (hb2.block B (Array.getElem?_eq_some_iff.1 h3).1).trans h3⟩), (fun _ => by
    obtain ⟨h1, h2, h3⟩ := hm1 (Nat.le_refl _)
    exact ⟨h1, h2, fun w3 f => h3 w3 ((Fr.of_below hb2).then f fun k hk => Or.inl hk)⟩), (fun _ => ⟨rfl, hk, fun w3 f => (ho.fr f fun k hk => by
      obtain ⟨h, rfl⟩ := hk
      exact (Array.getElem?_eq_some_iff.1 (hbox h).2.2).1).inn⟩)⟩
theorem gmSt_alloc {V w : World} {k : Nat} {v27 v30 v7 : Value} (h : GmSt V k [false] v27 v30 v7 w) (hk3 : k ≤ 3) : GmSt V k [true] v27 v30 (.pointer (some ⟨w.heap.size, 0, none⟩)) (w.alloc (.cells #[.slice none 0 0, .slice none 0 0] 25)) := by
  obtain ⟨B, m1, m, hb, hg3, hbox, hm1, hm⟩ := h
  have hk : k ≤ 2 := by
    rcases Nat.lt_or_ge k 3 with h | h
    · omega
    · have := hg3 (by omega)
      cases this
  have hal : Below w.heap.size w (w.alloc (.cells #[.slice none 0 0, .slice none 0 0] 25)) := (Below.refl _ _).alloc (Nat.le_refl _) _
  have hfr : ∀ w', Fr (fun b => [true] = [true] ∧ b = w.heap.size) (w.alloc (.cells #[.slice none 0 0, .slice none 0 0] 25)) w' → Fr (fun b => [false] = [true] ∧ b = B) w w' := fun w' f => (Fr.of_below hal).then f fun k hk => Or.inr (Nat.le_of_eq hk.2.symm)
  refine ⟨w.heap.size, m1, m, bel_then hb hb.size hal, (fun _ => rfl), (fun _ => ⟨rfl, hb.size, ?_⟩), (fun h => ?_), (fun h => ?_)⟩
  · rw [if_neg (by omega)]
    exact heap_alloc_new w _
  · obtain ⟨h1, h2, h3⟩ := hm1 h
    exact ⟨h1, h2, fun w3 f => h3 w3 (hfr w3 f)⟩
  · obtain ⟨h1, h2, h3⟩ := hm h
    exact ⟨h1, h2, fun w3 f => h3 w3 (hfr w3 f)⟩
/-- A row of one change in a block of its own. -/
theorem one_at {W : World} {Z : Nat} {c : Cx} (h : W.heap[Z]? = some (.cells (encCx c).toArray 43 (0, 0))) : KCx.At W Z 0 [c] := fun i hi j u hu => by
  have hi' : i = 0 := by simpa using hi
  subst hi'
  have hj : j < 6 := (List.getElem?_eq_some_iff.1 hu).1
  rw [Lib.cell_of_heap h]
  rcases j with _ | _ | _ | _ | _ | _ | j
  all_goals first | exact hu | omega
/-- What lies behind the region: the marks in a box. -/
structure GmEnd (V : World) (B : Nat) (m : Mx) (w : World) : Prop where
  bel : Below V.heap.size V w
  low : V.heap.size ≤ B
  box : w.heap[B]? = some (.cells (encMx m).toArray 25 (0, 0))
  is : m.mk' = gmM
  inn : MIn w m
theorem gmSt_store {V w : World} {v27 v30 v7 : Value} (h : GmSt V 2 [true] v27 v30 v7 w) : ∃ B m, v7 = .pointer (some ⟨B, 0, none⟩) ∧ v30 = .agg (encMx m).toArray ∧ (w.cell? ⟨B, 0, none⟩ = some (.slice none 0 0) ∧ w.cell? ⟨B, 1, none⟩ = some (.slice none 0 0) ∧ w.frozen? ⟨B, 0, none⟩ = false ∧ w.frozen? ⟨B, 1, none⟩ = false) ∧ GmSt V 3 [true] v27 v30 v7 ((w.setCell ⟨B, 0, none⟩ m.ksl).setCell ⟨B, 1, none⟩ m.rsl) := by
  obtain ⟨B, m1, m, hb, hg3, hbox, hm1, hm⟩ := h
  obtain ⟨h1, h2, h3⟩ := hbox rfl
  rw [if_neg (by omega)] at h3
  obtain ⟨h4, h5, h6⟩ := hm (Nat.le_refl _)
  refine ⟨B, m, h1, h4, ⟨by rw [Lib.cell_of_heap h3]; rfl, by rw [Lib.cell_of_heap h3]; rfl, Lib.frozen_of_heap h3 0, Lib.frozen_of_heap h3 1⟩, ?_⟩
  have hlt := (Array.getElem?_eq_some_iff.1 h3).1
  have e1 : (w.setCell ⟨B, 0, none⟩ m.ksl).heap[B]? = some (.cells #[m.ksl, .slice none 0 0] 25 (0, 0)) := heap_setCell_same w B 0 _ _ _ h3
  have e2 : ((w.setCell ⟨B, 0, none⟩ m.ksl).setCell ⟨B, 1, none⟩ m.rsl).heap[B]? = some (.cells #[m.ksl, m.rsl] 25 (0, 0)) := heap_setCell_same _ B 1 _ _ _ e1
  have hfr : Fr (fun b => [true] = [true] ∧ b = B) w ((w.setCell ⟨B, 0, none⟩ m.ksl).setCell ⟨B, 1, none⟩ m.rsl) := ⟨rfl, rfl, rfl, by simp, fun k _ hn => by
    rw [heap_setCell_other _ _ k _ (fun e => hn ⟨rfl, e⟩), heap_setCell_other _ _ k _ (fun e => hn ⟨rfl, e⟩)]⟩
  refine ⟨B, m1, m, hb.trans (hfr.below (by have := hb.size; omega) fun k hk => by have := hk.2; omega), (fun _ => rfl), (fun _ => ⟨h1, h2, ?_⟩), (fun _ => ?_), (fun _ => ⟨h4, h5, fun w3 f => h6 w3 (hfr.then f fun k hk => Or.inl hk)⟩)⟩
  · rw [if_pos rfl]
    exact e2
  · obtain ⟨h7, h8, h9⟩ := hm1 (by omega)
    exact ⟨h7, h8, fun w3 f => h9 w3 (hfr.then f fun k hk => Or.inl hk)⟩
theorem gmSt_end {V w : World} {v27 v30 v7 : Value} (h : GmSt V 3 [true] v27 v30 v7 w) : ∃ B m, v7 = .pointer (some ⟨B, 0, none⟩) ∧ GmEnd V B m w := by
  obtain ⟨B, m1, m, hb, hg3, hbox, hm1, hm⟩ := h
  obtain ⟨h1, h2, h3⟩ := hbox rfl
  obtain ⟨h4, h5, h6⟩ := hm (by omega)
  rw [if_pos rfl] at h3
  exact ⟨B, m, h1, hb, h2, h3, h5, h6 w (Fr.refl _ _)⟩

set_option linter.unusedSimpArgs false in
set_option maxHeartbeats 8000000 in
set_option maxRecDepth 100000 in
theorem fixed12_any (S : MarksApi) : Fixed12 := by
  intro w
  obtain ⟨N, hN⟩ : ∃ N, w.heap.size = N := ⟨_, rfl⟩
  obtain ⟨V, hV⟩ : ∃ V, laidB w (gmBlocks N) = V := ⟨_, rfl⟩
  obtain ⟨hbV, hsV, hcV⟩ := laidB_spec (gmBlocks N) w
  rw [hV] at hbV hsV hcV
  rw [hN] at hsV hcV
  have hsV' : V.heap.size = N + 9 := hsV
  have HBL : Hid (∀ W', Below V.heap.size V W' → ∀ i (h : i < 9), W'.heap[N + i]? = some (.cells ((gmBlocks N)[i]'h).1 ((gmBlocks N)[i]'h).2 (0, 0))) := fun W' hW i h => (hW.block _ (by omega)).trans (hcV i h)
  have hV' : ((((((((w.alloc (.cells #[.string ⟨#[120]⟩] 9)).alloc (.cells #[.string ⟨#[110]⟩, .slice (some ⟨N, 0, none⟩) 1 1] 64)).alloc (.cells #[.string ⟨#[121]⟩] 9)).alloc (.cells #[.string ⟨#[110]⟩, .slice (some ⟨N + 2, 0, none⟩) 1 1] 64)).alloc (.cells #[.string ⟨#[65]⟩, .string ⟨#[97]⟩] 27)).alloc (.cells #[.string ⟨#[110]⟩, .int .i64 1, .string ⟨#[120]⟩] 58)).alloc (.cells #[.string ⟨#[65]⟩, .slice (some ⟨N + 5, 0, none⟩) 1 1] 34)).alloc (.cells #[.string ⟨#[65]⟩, .string ⟨#[97]⟩, .bool true, .slice (some ⟨N + 1, 0, none⟩) 1 1, .bool true, .slice (some ⟨N + 3, 0, none⟩) 1 1] 43)).alloc (.cells #[.string ⟨#[65]⟩, .string ⟨#[97]⟩, .bool false, .slice none 0 0, .bool true, .slice (some ⟨N + 3, 0, none⟩) 1 1] 43) = V := hV
  clear hV hcV hsV
  go_enter Try.func9, Try.ntmps9
  go_upto_region 6 with fail
  simp only [Nat.add_assoc, Nat.reduceAdd]
  try rw [hV']
  clear hV'
  have HS6 : Hid (∀ W', Below V.heap.size V W' → W'.cell? ⟨N + 4, 0, none⟩ = some (.string ⟨#[65]⟩) ∧ W'.cell? ⟨N + 4, 1, none⟩ = some (.string ⟨#[97]⟩) ∧ W'.cell? ⟨N + 6, 0, none⟩ = some (.string ⟨#[65]⟩) ∧ W'.cell? ⟨N + 6, 1, none⟩ = some (.slice (some ⟨N + 5, 0, none⟩) 1 1)) := fun W' hW => by
    have e4 := HBL.out W' hW 4 (by omega)
    have e6 := HBL.out W' hW 6 (by omega)
    exact ⟨by rw [Lib.cell_of_heap e4]; rfl, by rw [Lib.cell_of_heap e4]; rfl, by rw [Lib.cell_of_heap e6]; rfl, by rw [Lib.cell_of_heap e6]; rfl⟩
  have HRG : Hid (∀ W', Below V.heap.size V W' → (⟨⟨#[65]⟩, some ⟨N + 5, 0, none⟩, 1, [gmt]⟩ : Rx).at W') := fun W' hW => by
    have e5 := HBL.out W' hW 5 (by omega)
    refine ⟨⟨_, _, rfl, Or.inr ⟨_, _, rfl, fun i hi j u hu => ?_⟩⟩, ⟨⟨by unfold maxLen; simp, fun x hx => ?_⟩, by simp⟩⟩
    · have hi' : i = 0 := by simpa using hi
      subst hi'
      have hj : j < 3 := (List.getElem?_eq_some_iff.1 hu).1
      rw [Lib.cell_of_heap e5]
      rcases j with _ | _ | _ | j
      all_goals first | exact hu | omega
    · obtain rfl : x = gmt := by simpa using hx
      exact ⟨by decide, by decide, by decide, by decide⟩
  refine wp_region_held_drew (S := fun w' => w'.cell? ⟨N + 4, 0, none⟩ = some (.string ⟨#[65]⟩) ∧ w'.cell? ⟨N + 4, 1, none⟩ = some (.string ⟨#[97]⟩) ∧ w'.cell? ⟨N + 6, 0, none⟩ = some (.string ⟨#[65]⟩) ∧ w'.cell? ⟨N + 6, 1, none⟩ = some (.slice (some ⟨N + 5, 0, none⟩) 1 1)) (by kernel_rfl) (HS6.out V.drew (bel_drewN (Below.refl _ _) 1)) (fun hHeld => ?_)
  refine take_val (i := 0) (.agg #[.slice none 0 0, .slice none 0 0]) rfl (by kernel_rfl) (by kernel_rfl) (by kernel_rfl) (fun _ _ _ h => h) (by rfl) (fun w hSw => by go_simp) hHeld ?_
  simp only [Act.put, List.setIfInBounds_toArray, List.set_cons_zero, List.set_cons_succ]
  refine take_val (i := 1) (.agg #[.string ⟨#[65]⟩, .string ⟨#[97]⟩]) rfl (by kernel_rfl) (by kernel_rfl) (by kernel_rfl) (fun _ _ _ h => h) (by rfl) (fun w hSw => by go_simp) hHeld ?_
  simp only [Act.put, List.setIfInBounds_toArray, List.set_cons_zero, List.set_cons_succ]
  refine take_val (i := 3) (.pointer (some ⟨N + 6, 1, none⟩)) rfl (by kernel_rfl) (by kernel_rfl) (by kernel_rfl) (fun _ _ _ h => h) (by rfl) (fun w hSw => by go_simp) hHeld ?_
  simp only [Act.put, List.setIfInBounds_toArray, List.set_cons_zero, List.set_cons_succ]
  refine take_val (i := 4) (.slice (some ⟨N + 5, 0, none⟩) 1 1) rfl (by kernel_rfl) (by kernel_rfl) (by kernel_rfl) (fun _ _ _ h => h) (by rfl) (fun w hSw => by go_simp) hHeld ?_
  simp only [Act.put, List.setIfInBounds_toArray, List.set_cons_zero, List.set_cons_succ]
  clear hHeld
  refine wpAnyH_floats [2, 5, 7] [6] (fun a0 k fl a w' => ∃ v27 v30 v7, a = putS a0 [(27, v27), (30, v30), (7, v7)] ∧ GmSt V k fl v27 v30 v7 w') (by kernel_rfl) (by decide) ⟨_, _, _, (putS_self _ [27, 30, 7]).symm, gmSt_start _ _ _ (bel_drewN (Below.refl _ _) 1)⟩ ?hS ?hmain ?halloc ?hend
  case hS =>
    rintro k fl a w' ⟨v27, v30, v7, _, B, m1, m, hb, _⟩
    exact HS6.out w' hb
  case hmain =>
    rintro k i fl a w' hk hfl hrd ⟨v27, v30, v7, rfl, hst⟩
    rcases k with _ | _ | _ | k
    · obtain rfl : i = 2 := by simpa using hk.symm
      have HK := hid (S.key w' ⟨none, 0, [], none, 0, []⟩ gma ⟨KK.is_nil w', KRx.is_nil w', fun r hr => by cases hr⟩ ⟨by decide, by decide⟩ gm_fit (fun x hx => by cases hx))
      simp only [encMx, Mx.ksl, Mx.rsl, gma, List.length_nil] at HK
      have HST := hid hst
      clear hrd hst
      refine ⟨_, at_drop0 rfl, fun K hK => ?_⟩
      simp only [putS, List.foldl_cons, List.foldl_nil, Act.put, List.setIfInBounds_toArray, List.set_cons_zero, List.set_cons_succ]
      rw [if_pos (by rfl)]
      go_simp
      refine HK.out.mono ?_
      rintro e w2 ⟨m2, rfl, ho2, hk2, hb2⟩
      have HST2 := hid (gmSt_key HST.out ho2 hk2 hb2)
      clear hk2 ho2 hb2 HST
      go_wp2_with fail
      exact hK.out _ _ ⟨_, v30, v7, rfl, HST2.out⟩
    · obtain rfl : i = 5 := by simpa using hk.symm
      obtain ⟨B, m1, m, hb, _, hbox, hm1, hm⟩ := id hst
      obtain ⟨e1, e2, e3⟩ := hm1 (Nat.le_refl _)
      have e4 : m1.ks = [gma] := congrArg Prod.fst e2
      have e5 : m1.rs = [] := List.map_eq_nil_iff.1 (congrArg Prod.snd e2)
      have HK := hid (S.range w' m1 ⟨⟨#[65]⟩, some ⟨N + 5, 0, none⟩, 1, [gmt]⟩ (e3 w' (Fr.refl _ _)) ⟨by rw [e4]; decide, by rw [e5]; decide⟩ (HRG.out w' hb))
      rw [e2] at HK
      have HST := hid hst
      subst e1
      clear hrd hst hbox hm1 hm e2 e3
      obtain ⟨kp, kc, ks, rp, rc, rs⟩ := m1
      simp only at e4 e5
      subst e4 e5
      simp only [encMx, Mx.ksl, Mx.rsl, Rx.sl, List.length_cons, List.length_nil, Nat.zero_add] at HK HST
      refine ⟨_, at_drop0 rfl, fun K hK => ?_⟩
      simp only [encMx, Mx.ksl, Mx.rsl, List.length_cons, List.length_nil, Nat.zero_add, putS, List.foldl_cons, List.foldl_nil, Act.put, List.setIfInBounds_toArray, List.set_cons_zero, List.set_cons_succ]
      rw [if_pos (by rfl)]
      go_simp
      refine HK.out.mono ?_
      rintro e w2 ⟨m2, rfl, ho2, hk2, hb2⟩
      have HST2 := hid (gmSt_range HST.out ho2 hk2 hb2)
      clear hk2 ho2 hb2 HST
      go_wp2_with fail
      exact hK.out _ _ ⟨_, _, v7, rfl, HST2.out⟩
    · obtain rfl : i = 7 := by simpa using hk.symm
      obtain ⟨b, rfl⟩ : ∃ b, fl = [b] := by
        match fl, hfl with
        | [b], _ => exact ⟨b, rfl⟩
      cases b with
      | false => exact (not_ready hrd (by kernel_rfl)).elim
      | true =>
        obtain ⟨B, m, rfl, rfl, ⟨c0, c1, z0, z1⟩, hst2⟩ := gmSt_store hst
        have HST2 := hid hst2
        clear hrd hst hst2
        obtain ⟨kp, kc, ks, rp, rc, rs⟩ := m
        simp only [encMx, Mx.ksl, Mx.rsl] at HST2
        refine ⟨_, at_drop0 rfl, fun K hK => ?_⟩
        simp only [encMx, Mx.ksl, Mx.rsl, putS, List.foldl_cons, List.foldl_nil, Act.put, List.setIfInBounds_toArray, List.set_cons_zero, List.set_cons_succ]
        rw [if_pos (by rfl)]
        go_simp
        go_wp2_with fail
        exact hK.out _ _ ⟨v27, _, _, rfl, HST2.out⟩
    · simp at hk
  case halloc =>
    rintro j i k fl a w' hj hk hfl hf ⟨v27, v30, v7, rfl, hst⟩
    obtain ⟨b, rfl⟩ : ∃ b, fl = [b] := by
      match fl, hfl with
      | [b], _ => exact ⟨b, rfl⟩
    rcases j with _ | j
    · obtain rfl : i = 6 := by simpa using hj.symm
      obtain rfl : b = false := by simpa using hf
      have HST2 := hid (gmSt_alloc hst hk)
      clear hst hf hj hk
      refine ⟨_, at_drop0 rfl, fun K hK => ?_⟩
      simp only [putS, List.foldl_cons, List.foldl_nil, Act.put, List.setIfInBounds_toArray, List.set_cons_zero, List.set_cons_succ]
      rw [if_pos (by rfl)]
      go_simp
      go_wp2_with fail
      exact hK.out _ _ ⟨v27, v30, _, rfl, HST2.out⟩
    · simp at hj
  case hend =>
    rintro a w' ⟨v27, v30, v7, rfl, hst⟩
    obtain ⟨B, m, rfl, hE⟩ := gmSt_end hst
    clear hst
    simp only [putS, List.foldl_cons, List.foldl_nil, Act.put, List.setIfInBounds_toArray, List.set_cons_zero, List.set_cons_succ]
    obtain ⟨kp, kc, ks, rp, rc, rs⟩ := m
    obtain rfl : ks = [gma] := congrArg Prod.fst hE.is
    obtain ⟨r1, rfl⟩ : ∃ r1, rs = [r1] := by
      have := congrArg (fun x : Mk => x.2.length) hE.is
      simp only [Mx.mk', List.length_map] at this
      match rs, this with
      | [r1], _ => exact ⟨r1, rfl⟩
    have HE := hid hE
    have hlB : B < w'.heap.size := (Array.getElem?_eq_some_iff.1 hE.box).1
    have HIN : Hid (∀ W', Below w'.heap.size w' W' → (W'.cell? ⟨N + 6, 0, none⟩ = some (.string ⟨#[65]⟩) ∧ W'.cell? ⟨N + 6, 1, none⟩ = some (.slice (some ⟨N + 5, 0, none⟩) 1 1) ∧ W'.cell? ⟨N + 7, 0, none⟩ = some (.string ⟨#[65]⟩) ∧ W'.cell? ⟨N + 7, 1, none⟩ = some (.string ⟨#[97]⟩) ∧ W'.cell? ⟨N + 7, 2, none⟩ = some (.bool true) ∧ W'.cell? ⟨N + 7, 3, none⟩ = some (.slice (some ⟨N + 1, 0, none⟩) 1 1) ∧ W'.cell? ⟨N + 7, 4, none⟩ = some (.bool true) ∧ W'.cell? ⟨N + 7, 5, none⟩ = some (.slice (some ⟨N + 3, 0, none⟩) 1 1) ∧ W'.cell? ⟨N + 8, 0, none⟩ = some (.string ⟨#[65]⟩) ∧ W'.cell? ⟨N + 8, 1, none⟩ = some (.string ⟨#[97]⟩) ∧ W'.cell? ⟨N + 8, 2, none⟩ = some (.bool false) ∧ W'.cell? ⟨N + 8, 3, none⟩ = some (.slice none 0 0) ∧ W'.cell? ⟨N + 8, 4, none⟩ = some (.bool true) ∧ W'.cell? ⟨N + 8, 5, none⟩ = some (.slice (some ⟨N + 3, 0, none⟩) 1 1) ∧ W'.cell? ⟨B, 0, none⟩ = some (.slice kp 1 kc) ∧ W'.cell? ⟨B, 1, none⟩ = some (.slice rp 1 rc)) ∧ MIn W' ⟨kp, kc, [gma], rp, rc, [r1]⟩ ∧ Below V.heap.size V W') := fun W' hW => by
      have hVW : Below V.heap.size V W' := bel_then HE.out.bel HE.out.bel.size hW
      have e6 := HBL.out W' hVW 6 (by omega)
      have e7 := HBL.out W' hVW 7 (by omega)
      have e8 := HBL.out W' hVW 8 (by omega)
      have eB := (hW.block B hlB).trans HE.out.box
      refine ⟨⟨?_, ?_, ?_, ?_, ?_, ?_, ?_, ?_, ?_, ?_, ?_, ?_, ?_, ?_, ?_, ?_⟩, HE.out.inn.on hW, hVW⟩
      · rw [Lib.cell_of_heap e6]; rfl
      · rw [Lib.cell_of_heap e6]; rfl
      iterate 6 (· rw [Lib.cell_of_heap e7]; rfl)
      iterate 6 (· rw [Lib.cell_of_heap e8]; rfl)
      · rw [Lib.cell_of_heap eB]; rfl
      · rw [Lib.cell_of_heap eB]; rfl
    have HC : Hid (∀ W', Below V.heap.size V W' → CIn W' ⟨⟨#[65]⟩, ⟨#[97]⟩, true, some ⟨N + 1, 0, none⟩, 1, gmF ⟨#[120]⟩ N, true, some ⟨N + 3, 0, none⟩, 1, gmF ⟨#[121]⟩ (N + 2)⟩) := fun W' hW =>
      ⟨gmf_is (HBL.out W' hW 1 (by omega)) (HBL.out W' hW 0 (by omega)), gmf_fit _ _ (by decide), gmf_is (HBL.out W' hW 3 (by omega)) (HBL.out W' hW 2 (by omega)), gmf_fit _ _ (by decide), gmf_cp _ _, gmf_cp _ _⟩
    have HD : Hid (∀ W', Below V.heap.size V W' → CIn W' ⟨⟨#[65]⟩, ⟨#[97]⟩, false, none, 0, [], true, some ⟨N + 3, 0, none⟩, 1, gmF ⟨#[121]⟩ (N + 2)⟩) := fun W' hW =>
      ⟨⟨_, _, rfl, Or.inl rfl, fun x hx => by cases hx⟩, ⟨by unfold maxLen; simp, fun x hx => by cases hx⟩, gmf_is (HBL.out W' hW 3 (by omega)) (HBL.out W' hW 2 (by omega)), gmf_fit _ _ (by decide), copyX_nil, gmf_cp _ _⟩
    have HTC : Hid (∀ W', Below w'.heap.size w' W' → Calls Try.prog 23 #[.agg #[.string ⟨#[65]⟩, .slice (some ⟨N + 5, 0, none⟩) 1 1], .agg #[.string ⟨#[65]⟩, .string ⟨#[97]⟩, .bool true, .slice (some ⟨N + 1, 0, none⟩) 1 1, .bool true, .slice (some ⟨N + 3, 0, none⟩) 1 1]] W' fun e w' => BoolPost W' true e w') := fun W' hW => by
      have := S.touches W' _ _ (HRG.out W' (HIN.out W' hW).2.2) (HC.out W' (HIN.out W' hW).2.2)
      refine this.mono fun e x h => ?_
      have h' : e = .returned (.bool (touchesM gmR gmC)) ∧ Below W'.heap.size W' x := h
      rw [gm_tc] at h'
      exact h'
    have HTD : Hid (∀ W', Below w'.heap.size w' W' → Calls Try.prog 23 #[.agg #[.string ⟨#[65]⟩, .slice (some ⟨N + 5, 0, none⟩) 1 1], .agg #[.string ⟨#[65]⟩, .string ⟨#[97]⟩, .bool false, .slice none 0 0, .bool true, .slice (some ⟨N + 3, 0, none⟩) 1 1]] W' fun e w' => BoolPost W' false e w') := fun W' hW => by
      have := S.touches W' _ _ (HRG.out W' (HIN.out W' hW).2.2) (HD.out W' (HIN.out W' hW).2.2)
      refine this.mono fun e x h => ?_
      have h' : e = .returned (.bool (touchesM gmR gmD)) ∧ Below W'.heap.size W' x := h
      rw [gm_td] at h'
      exact h'
    have hfew : FewM ⟨kp, kc, [gma], rp, rc, [r1]⟩ := ⟨by show 1 < _; decide, by show 1 < _; decide⟩
    have HHI : Hid (∀ W' Z, Below w'.heap.size w' W' → W'.heap[Z]? = some (.cells #[.string ⟨#[65]⟩, .string ⟨#[97]⟩, .bool false, .slice none 0 0, .bool true, .slice (some ⟨N + 3, 0, none⟩) 1 1] 43 (0, 0)) → Calls Try.prog 19 #[.agg #[.slice kp 1 kc, .slice rp 1 rc], .slice (some ⟨Z, 0, none⟩) 1 1] W' fun e w' => BoolPost W' true e w') := fun W' Z hW hZ => by
      have := S.hits W' ⟨kp, kc, [gma], rp, rc, [r1]⟩ (.slice (some ⟨Z, 0, none⟩) 1 1) [⟨⟨#[65]⟩, ⟨#[97]⟩, false, none, 0, [], true, some ⟨N + 3, 0, none⟩, 1, gmF ⟨#[121]⟩ (N + 2)⟩] (HIN.out W' hW).2.1 hfew.len ⟨⟨_, _, rfl, Or.inr ⟨_, _, rfl, one_at hZ⟩⟩, fun c hc => by rw [List.mem_singleton] at hc; subst hc; exact HD.out W' (HIN.out W' hW).2.2⟩ (by show 1 < _; decide)
      rw [HE.out.is] at this
      refine this.mono fun e x h => ?_
      have h' : e = .returned (.bool (hitsM gmM [gmD])) ∧ Below W'.heap.size W' x := h
      rw [gm_hits] at h'
      exact h'
    have HWH : Hid (∀ W' Z, Below w'.heap.size w' W' → W'.heap[Z]? = some (.cells #[.string ⟨#[65]⟩, .string ⟨#[97]⟩, .bool true, .slice (some ⟨N + 1, 0, none⟩) 1 1, .bool true, .slice (some ⟨N + 3, 0, none⟩) 1 1] 43 (0, 0)) → Calls Try.prog 18 #[.agg #[.slice kp 1 kc, .slice rp 1 rc], .slice (some ⟨Z, 0, none⟩) 1 1] W' fun e w' => KeyRPost W' [gma] e w') := fun W' Z hW hZ => by
      have := S.which W' ⟨kp, kc, [gma], rp, rc, [r1]⟩ (.slice (some ⟨Z, 0, none⟩) 1 1) [⟨⟨#[65]⟩, ⟨#[97]⟩, true, some ⟨N + 1, 0, none⟩, 1, gmF ⟨#[120]⟩ N, true, some ⟨N + 3, 0, none⟩, 1, gmF ⟨#[121]⟩ (N + 2)⟩] (HIN.out W' hW).2.1 hfew.len ⟨⟨_, _, rfl, Or.inr ⟨_, _, rfl, one_at hZ⟩⟩, fun c hc => by rw [List.mem_singleton] at hc; subst hc; exact HC.out W' (HIN.out W' hW).2.2⟩ (by show 1 < _; decide)
      rw [HE.out.is] at this
      refine this.mono fun e x h => ?_
      have h' : KeyRPost W' (whichM gmM [gmC]) e x := h
      rw [gm_which] at h'
      exact h'
    have HUN : Hid (∀ W', Below w'.heap.size w' W' → Calls Try.prog 12 #[.agg #[.slice kp 1 kc, .slice rp 1 rc], .agg #[.slice kp 1 kc, .slice rp 1 rc]] W' fun e w' => MOwnPost W' gmM e w') := fun W' hW => by
      have := S.union W' ⟨kp, kc, [gma], rp, rc, [r1]⟩ ⟨kp, kc, [gma], rp, rc, [r1]⟩ (HIN.out W' hW).2.1 (HIN.out W' hW).2.1 hfew hfew (fun x hx => by rw [List.mem_singleton] at hx; subst hx; exact gm_fit) (fun x hx => by rw [List.mem_singleton] at hx; subst hx; exact gm_fit)
      rw [HE.out.is, gm_union] at this
      exact this
    have HEQ : Hid (∀ W' m2, Below w'.heap.size w' W' → MIn W' m2 → LenM m2 → Calls Try.prog 15 #[.agg #[.slice kp 1 kc, .slice rp 1 rc], .agg #[m2.ksl, m2.rsl]] W' fun e w' => BoolPost W' (decide (gmM = m2.mk')) e w') := fun W' m2 hW h1 h2 => by
      have := S.equal W' ⟨kp, kc, [gma], rp, rc, [r1]⟩ m2 (HIN.out W' hW).2.1 h1 hfew.len h2
      rw [HE.out.is] at this
      exact this
    have HMI : Hid (∀ W', Below w'.heap.size w' W' → Below w.heap.size w W') := fun W' hW => bel_then hbV hbV.size (HIN.out W' hW).2.2
    clear hE hfew
    go_upto_region 7 with fail
    refine wp_region_held_drew (S := fun W => W.cell? ⟨N + 6, 0, none⟩ = some (.string ⟨#[65]⟩) ∧ W.cell? ⟨N + 6, 1, none⟩ = some (.slice (some ⟨N + 5, 0, none⟩) 1 1) ∧ W.cell? ⟨N + 7, 0, none⟩ = some (.string ⟨#[65]⟩) ∧ W.cell? ⟨N + 7, 1, none⟩ = some (.string ⟨#[97]⟩) ∧ W.cell? ⟨N + 7, 2, none⟩ = some (.bool true) ∧ W.cell? ⟨N + 7, 3, none⟩ = some (.slice (some ⟨N + 1, 0, none⟩) 1 1) ∧ W.cell? ⟨N + 7, 4, none⟩ = some (.bool true) ∧ W.cell? ⟨N + 7, 5, none⟩ = some (.slice (some ⟨N + 3, 0, none⟩) 1 1) ∧ W.cell? ⟨N + 8, 0, none⟩ = some (.string ⟨#[65]⟩) ∧ W.cell? ⟨N + 8, 1, none⟩ = some (.string ⟨#[97]⟩) ∧ W.cell? ⟨N + 8, 2, none⟩ = some (.bool false) ∧ W.cell? ⟨N + 8, 3, none⟩ = some (.slice none 0 0) ∧ W.cell? ⟨N + 8, 4, none⟩ = some (.bool true) ∧ W.cell? ⟨N + 8, 5, none⟩ = some (.slice (some ⟨N + 3, 0, none⟩) 1 1) ∧ W.cell? ⟨B, 0, none⟩ = some (.slice kp 1 kc) ∧ W.cell? ⟨B, 1, none⟩ = some (.slice rp 1 rc)) (by kernel_rfl) (HIN.out w'.drew (bel_drewN (Below.refl _ _) 1)).1 (fun hHeld => ?_)
    refine take_val (i := 0) (.agg #[.string ⟨#[65]⟩, .slice (some ⟨N + 5, 0, none⟩) 1 1]) rfl (by kernel_rfl) (by kernel_rfl) (by kernel_rfl) (fun _ _ _ h => h) (by rfl) (fun w hSw => by go_simp) hHeld ?_
    simp only [Act.put, List.setIfInBounds_toArray, List.set_cons_zero, List.set_cons_succ]
    refine take_val (i := 1) (.agg #[.string ⟨#[65]⟩, .string ⟨#[97]⟩, .bool true, .slice (some ⟨N + 1, 0, none⟩) 1 1, .bool true, .slice (some ⟨N + 3, 0, none⟩) 1 1]) rfl (by kernel_rfl) (by kernel_rfl) (by kernel_rfl) (fun _ _ _ h => h) (by rfl) (fun w hSw => by go_simp) hHeld ?_
    simp only [Act.put, List.setIfInBounds_toArray, List.set_cons_zero, List.set_cons_succ]
    clear hHeld
    refine wpAnyH_ready (rs := [2]) (by kernel_rfl) (by simp) ?_
    refine AllReadyH.cons (at_drop0 rfl) (fun K hK => ?_) AllReadyH.nil
    rw [if_pos (by rfl)]
    go_simp
    refine (HTC.out _ (bel_drewN (Below.refl _ _) 1)).mono ?_
    rintro e w1 ⟨rfl, hb1⟩
    have HB1 : Hid (Below w'.heap.size w' w1) := (bel_drewN (Below.refl w'.heap.size w') 1).trans hb1
    clear hb1
    go_wp2_with fail
    refine hK.out _ _ ((HIN.out w1 HB1.out).1) (fun hHeld => ?_)
    clear hK K
    try simp only [Act.put, List.setIfInBounds_toArray, List.set_cons_zero, List.set_cons_succ]
    refine take_val (i := 3) (.bool true) rfl (by kernel_rfl) (by kernel_rfl) (by kernel_rfl) (fun _ _ _ h => h) (by rfl) (fun w hSw => by go_simp) hHeld ?_
    simp only [Act.put, List.setIfInBounds_toArray, List.set_cons_zero, List.set_cons_succ]
    refine take_val (i := 4) (.agg #[.string ⟨#[65]⟩, .slice (some ⟨N + 5, 0, none⟩) 1 1]) rfl (by kernel_rfl) (by kernel_rfl) (by kernel_rfl) (fun _ _ _ h => h) (by rfl) (fun w hSw => by go_simp) hHeld ?_
    simp only [Act.put, List.setIfInBounds_toArray, List.set_cons_zero, List.set_cons_succ]
    refine take_val (i := 5) (.agg #[.string ⟨#[65]⟩, .string ⟨#[97]⟩, .bool false, .slice none 0 0, .bool true, .slice (some ⟨N + 3, 0, none⟩) 1 1]) rfl (by kernel_rfl) (by kernel_rfl) (by kernel_rfl) (fun _ _ _ h => h) (by rfl) (fun w hSw => by go_simp) hHeld ?_
    simp only [Act.put, List.setIfInBounds_toArray, List.set_cons_zero, List.set_cons_succ]
    clear hHeld
    refine wpAnyH_ready (rs := [6]) (by kernel_rfl) (by simp) ?_
    refine AllReadyH.cons (at_drop0 rfl) (fun K hK => ?_) AllReadyH.nil
    rw [if_pos (by rfl)]
    go_simp
    refine (HTD.out w1 HB1.out).mono ?_
    rintro e w2 ⟨rfl, hb2⟩
    have HB2 : Hid (Below w'.heap.size w' w2) := bel_then HB1.out HB1.out.size hb2
    clear hb2 HB1
    go_wp2_with fail
    refine hK.out _ _ ((HIN.out w2 HB2.out).1) (fun hHeld => ?_)
    clear hK K
    try simp only [Act.put, List.setIfInBounds_toArray, List.set_cons_zero, List.set_cons_succ]
    refine take_val (i := 7) (.bool true) rfl (by kernel_rfl) (by kernel_rfl) (by kernel_rfl) (fun _ _ _ h => h) (by rfl) (fun w hSw => by go_simp) hHeld ?_
    simp only [Act.put, List.setIfInBounds_toArray, List.set_cons_zero, List.set_cons_succ]
    refine take_val (i := 8) (.bool true) rfl (by kernel_rfl) (by kernel_rfl) (by kernel_rfl) (fun _ _ _ h => h) (by rfl) (fun w hSw => by go_simp) hHeld ?_
    simp only [Act.put, List.setIfInBounds_toArray, List.set_cons_zero, List.set_cons_succ]
    refine take_val (i := 9) (.bool true) rfl (by kernel_rfl) (by kernel_rfl) (by kernel_rfl) (fun _ _ _ h => h) (by rfl) (fun w hSw => by go_simp) hHeld ?_
    simp only [Act.put, List.setIfInBounds_toArray, List.set_cons_zero, List.set_cons_succ]
    refine take_val (i := 10) (.pointer (some ⟨B, 0, none⟩)) rfl (by kernel_rfl) (by kernel_rfl) (by kernel_rfl) (fun _ _ _ h => h) (by rfl) (fun w hSw => by go_simp) hHeld ?_
    simp only [Act.put, List.setIfInBounds_toArray, List.set_cons_zero, List.set_cons_succ]
    refine take_val (i := 11) (.slice kp 1 kc) rfl (by kernel_rfl) (by kernel_rfl) (by kernel_rfl) (fun _ _ _ h => h) (by rfl) (fun w hSw => by go_simp) hHeld ?_
    simp only [Act.put, List.setIfInBounds_toArray, List.set_cons_zero, List.set_cons_succ]
    refine take_val (i := 12) (.int .i64 1) rfl (by kernel_rfl) (by kernel_rfl) (by kernel_rfl) (fun _ _ _ h => h) (by rfl) (fun w hSw => by go_simp) hHeld ?_
    simp only [Act.put, List.setIfInBounds_toArray, List.set_cons_zero, List.set_cons_succ]
    refine take_val (i := 13) (.bool true) rfl (by kernel_rfl) (by kernel_rfl) (by kernel_rfl) (fun _ _ _ h => h) (by rfl) (fun w hSw => by go_simp) hHeld ?_
    simp only [Act.put, List.setIfInBounds_toArray, List.set_cons_zero, List.set_cons_succ]
    refine take_val (i := 14) (.bool true) rfl (by kernel_rfl) (by kernel_rfl) (by kernel_rfl) (fun _ _ _ h => h) (by rfl) (fun w hSw => by go_simp) hHeld ?_
    simp only [Act.put, List.setIfInBounds_toArray, List.set_cons_zero, List.set_cons_succ]
    refine take_val (i := 15) (.bool true) rfl (by kernel_rfl) (by kernel_rfl) (by kernel_rfl) (fun _ _ _ h => h) (by rfl) (fun w hSw => by go_simp) hHeld ?_
    simp only [Act.put, List.setIfInBounds_toArray, List.set_cons_zero, List.set_cons_succ]
    refine take_val (i := 16) (.pointer (some ⟨B, 1, none⟩)) rfl (by kernel_rfl) (by kernel_rfl) (by kernel_rfl) (fun _ _ _ h => h) (by rfl) (fun w hSw => by go_simp) hHeld ?_
    simp only [Act.put, List.setIfInBounds_toArray, List.set_cons_zero, List.set_cons_succ]
    refine take_val (i := 17) (.slice rp 1 rc) rfl (by kernel_rfl) (by kernel_rfl) (by kernel_rfl) (fun _ _ _ h => h) (by rfl) (fun w hSw => by go_simp) hHeld ?_
    simp only [Act.put, List.setIfInBounds_toArray, List.set_cons_zero, List.set_cons_succ]
    refine take_val (i := 18) (.int .i64 1) rfl (by kernel_rfl) (by kernel_rfl) (by kernel_rfl) (fun _ _ _ h => h) (by rfl) (fun w hSw => by go_simp) hHeld ?_
    simp only [Act.put, List.setIfInBounds_toArray, List.set_cons_zero, List.set_cons_succ]
    refine take_val (i := 19) (.bool true) rfl (by kernel_rfl) (by kernel_rfl) (by kernel_rfl) (fun _ _ _ h => h) (by rfl) (fun w hSw => by go_simp) hHeld ?_
    simp only [Act.put, List.setIfInBounds_toArray, List.set_cons_zero, List.set_cons_succ]
    refine take_val (i := 20) (.bool true) rfl (by kernel_rfl) (by kernel_rfl) (by kernel_rfl) (fun _ _ _ h => h) (by rfl) (fun w hSw => by go_simp) hHeld ?_
    simp only [Act.put, List.setIfInBounds_toArray, List.set_cons_zero, List.set_cons_succ]
    refine take_val (i := 21) (.bool true) rfl (by kernel_rfl) (by kernel_rfl) (by kernel_rfl) (fun _ _ _ h => h) (by rfl) (fun w hSw => by go_simp) hHeld ?_
    simp only [Act.put, List.setIfInBounds_toArray, List.set_cons_zero, List.set_cons_succ]
    refine take_val (i := 22) (.agg #[.slice kp 1 kc, .slice rp 1 rc]) rfl (by kernel_rfl) (by kernel_rfl) (by kernel_rfl) (fun _ _ _ h => h) (by rfl) (fun w hSw => by go_simp) hHeld ?_
    simp only [Act.put, List.setIfInBounds_toArray, List.set_cons_zero, List.set_cons_succ]
    refine take_val (i := 23) (.agg #[.string ⟨#[65]⟩, .string ⟨#[97]⟩, .bool false, .slice none 0 0, .bool true, .slice (some ⟨N + 3, 0, none⟩) 1 1]) rfl (by kernel_rfl) (by kernel_rfl) (by kernel_rfl) (fun _ _ _ h => h) (by rfl) (fun w hSw => by go_simp) hHeld ?_
    simp only [Act.put, List.setIfInBounds_toArray, List.set_cons_zero, List.set_cons_succ]
    clear hHeld
    have hnew3 := heap_alloc_new w2 (.cells #[.string ⟨#[65]⟩, .string ⟨#[97]⟩, .bool false, .slice none 0 0, .bool true, .slice (some ⟨N + 3, 0, none⟩) 1 1] 43)
    obtain ⟨w3, hw3⟩ : ∃ w3, w2.alloc (.cells #[.string ⟨#[65]⟩, .string ⟨#[97]⟩, .bool false, .slice none 0 0, .bool true, .slice (some ⟨N + 3, 0, none⟩) 1 1] 43) = w3 := ⟨_, rfl⟩
    obtain ⟨Z3, hZ3⟩ : ∃ Z3, w2.heap.size = Z3 := ⟨_, rfl⟩
    have HB3 : Hid (Below w'.heap.size w' w3) := by rw [← hw3]; exact bel_then HB2.out HB2.out.size ((Below.refl _ _).alloc (Nat.le_refl _) _)
    rw [hw3, hZ3] at hnew3
    have HN3 := hid hnew3
    have HZ3 := hid hZ3
    have HW3 := hid hw3
    clear hnew3 hZ3 hw3
    refine wpAnyH_ready (rs := [24]) (by kernel_rfl) (by simp) ?_
    refine AllReadyH.cons (at_drop0 rfl) (fun K hK => ?_) AllReadyH.nil
    rw [if_pos (by rfl)]
    go_simp
    go_wp2_with fail
    try rw [HW3.out]
    try rw [HZ3.out]
    refine hK.out _ _ ((HIN.out w3 HB3.out).1) (fun hHeld => ?_)
    clear hK K
    try simp only [Act.put, List.setIfInBounds_toArray, List.set_cons_zero, List.set_cons_succ]
    clear hHeld
    refine wpAnyH_ready (rs := [25]) (by kernel_rfl) (by simp) ?_
    refine AllReadyH.cons (at_drop0 rfl) (fun K hK => ?_) AllReadyH.nil
    rw [if_pos (by rfl)]
    go_simp
    refine (HHI.out w3 Z3 HB3.out HN3.out).mono ?_
    rintro e w4 ⟨rfl, hb4⟩
    have HB4 : Hid (Below w'.heap.size w' w4) := bel_then HB3.out HB3.out.size hb4
    clear hb4 HB3 HN3 HB2 HW3 HZ3
    go_wp2_with fail
    refine hK.out _ _ ((HIN.out w4 HB4.out).1) (fun hHeld => ?_)
    clear hK K
    try simp only [Act.put, List.setIfInBounds_toArray, List.set_cons_zero, List.set_cons_succ]
    refine take_val (i := 26) (.bool true) rfl (by kernel_rfl) (by kernel_rfl) (by kernel_rfl) (fun _ _ _ h => h) (by rfl) (fun w hSw => by go_simp) hHeld ?_
    simp only [Act.put, List.setIfInBounds_toArray, List.set_cons_zero, List.set_cons_succ]
    refine take_val (i := 27) (.bool true) rfl (by kernel_rfl) (by kernel_rfl) (by kernel_rfl) (fun _ _ _ h => h) (by rfl) (fun w hSw => by go_simp) hHeld ?_
    simp only [Act.put, List.setIfInBounds_toArray, List.set_cons_zero, List.set_cons_succ]
    refine take_val (i := 28) (.agg #[.slice kp 1 kc, .slice rp 1 rc]) rfl (by kernel_rfl) (by kernel_rfl) (by kernel_rfl) (fun _ _ _ h => h) (by rfl) (fun w hSw => by go_simp) hHeld ?_
    simp only [Act.put, List.setIfInBounds_toArray, List.set_cons_zero, List.set_cons_succ]
    refine take_val (i := 29) (.agg #[.string ⟨#[65]⟩, .string ⟨#[97]⟩, .bool true, .slice (some ⟨N + 1, 0, none⟩) 1 1, .bool true, .slice (some ⟨N + 3, 0, none⟩) 1 1]) rfl (by kernel_rfl) (by kernel_rfl) (by kernel_rfl) (fun _ _ _ h => h) (by rfl) (fun w hSw => by go_simp) hHeld ?_
    simp only [Act.put, List.setIfInBounds_toArray, List.set_cons_zero, List.set_cons_succ]
    clear hHeld
    have hnew5 := heap_alloc_new w4 (.cells #[.string ⟨#[65]⟩, .string ⟨#[97]⟩, .bool true, .slice (some ⟨N + 1, 0, none⟩) 1 1, .bool true, .slice (some ⟨N + 3, 0, none⟩) 1 1] 43)
    obtain ⟨w5, hw5⟩ : ∃ w5, w4.alloc (.cells #[.string ⟨#[65]⟩, .string ⟨#[97]⟩, .bool true, .slice (some ⟨N + 1, 0, none⟩) 1 1, .bool true, .slice (some ⟨N + 3, 0, none⟩) 1 1] 43) = w5 := ⟨_, rfl⟩
    obtain ⟨Z5, hZ5⟩ : ∃ Z5, w4.heap.size = Z5 := ⟨_, rfl⟩
    have HB5 : Hid (Below w'.heap.size w' w5) := by rw [← hw5]; exact bel_then HB4.out HB4.out.size ((Below.refl _ _).alloc (Nat.le_refl _) _)
    rw [hw5, hZ5] at hnew5
    have HN5 := hid hnew5
    have HZ5 := hid hZ5
    have HW5 := hid hw5
    clear hnew5 hZ5 hw5
    refine wpAnyH_ready (rs := [30]) (by kernel_rfl) (by simp) ?_
    refine AllReadyH.cons (at_drop0 rfl) (fun K hK => ?_) AllReadyH.nil
    rw [if_pos (by rfl)]
    go_simp
    go_wp2_with fail
    try rw [HW5.out]
    try rw [HZ5.out]
    refine hK.out _ _ ((HIN.out w5 HB5.out).1) (fun hHeld => ?_)
    clear hK K
    try simp only [Act.put, List.setIfInBounds_toArray, List.set_cons_zero, List.set_cons_succ]
    clear hHeld
    refine wpAnyH_ready (rs := [31]) (by kernel_rfl) (by simp) ?_
    refine AllReadyH.cons (at_drop0 rfl) (fun K hK => ?_) AllReadyH.nil
    rw [if_pos (by rfl)]
    go_simp
    refine (HWH.out w5 Z5 HB5.out HN5.out).mono ?_
    rintro e w6 ⟨u6, rfl, ho6, hb6⟩
    obtain ⟨p6, c6, rfl⟩ := Kind.own_shape ho6
    have HB6 : Hid (Below w'.heap.size w' w6) := bel_then HB5.out HB5.out.size hb6
    clear hb6 HB5 HN5 HB4 HW5 HZ5 ho6
    simp only [List.length_cons, List.length_nil, Nat.zero_add]
    go_wp2_with fail
    refine hK.out _ _ ((HIN.out w6 HB6.out).1) (fun hHeld => ?_)
    clear hK K
    try simp only [Act.put, List.setIfInBounds_toArray, List.set_cons_zero, List.set_cons_succ]
    refine take_val (i := 32) (.int .i64 1) rfl (by kernel_rfl) (by kernel_rfl) (by kernel_rfl) (fun _ _ _ h => h) (by rfl) (fun w hSw => by go_simp) hHeld ?_
    simp only [Act.put, List.setIfInBounds_toArray, List.set_cons_zero, List.set_cons_succ]
    refine take_val (i := 33) (.bool true) rfl (by kernel_rfl) (by kernel_rfl) (by kernel_rfl) (fun _ _ _ h => h) (by rfl) (fun w hSw => by go_simp) hHeld ?_
    simp only [Act.put, List.setIfInBounds_toArray, List.set_cons_zero, List.set_cons_succ]
    refine take_val (i := 34) (.bool true) rfl (by kernel_rfl) (by kernel_rfl) (by kernel_rfl) (fun _ _ _ h => h) (by rfl) (fun w hSw => by go_simp) hHeld ?_
    simp only [Act.put, List.setIfInBounds_toArray, List.set_cons_zero, List.set_cons_succ]
    refine take_val (i := 35) (.bool true) rfl (by kernel_rfl) (by kernel_rfl) (by kernel_rfl) (fun _ _ _ h => h) (by rfl) (fun w hSw => by go_simp) hHeld ?_
    simp only [Act.put, List.setIfInBounds_toArray, List.set_cons_zero, List.set_cons_succ]
    refine take_val (i := 36) (.agg #[.slice kp 1 kc, .slice rp 1 rc]) rfl (by kernel_rfl) (by kernel_rfl) (by kernel_rfl) (fun _ _ _ h => h) (by rfl) (fun w hSw => by go_simp) hHeld ?_
    simp only [Act.put, List.setIfInBounds_toArray, List.set_cons_zero, List.set_cons_succ]
    refine take_val (i := 37) (.agg #[.slice kp 1 kc, .slice rp 1 rc]) rfl (by kernel_rfl) (by kernel_rfl) (by kernel_rfl) (fun _ _ _ h => h) (by rfl) (fun w hSw => by go_simp) hHeld ?_
    simp only [Act.put, List.setIfInBounds_toArray, List.set_cons_zero, List.set_cons_succ]
    refine take_val (i := 38) (.agg #[.slice kp 1 kc, .slice rp 1 rc]) rfl (by kernel_rfl) (by kernel_rfl) (by kernel_rfl) (fun _ _ _ h => h) (by rfl) (fun w hSw => by go_simp) hHeld ?_
    simp only [Act.put, List.setIfInBounds_toArray, List.set_cons_zero, List.set_cons_succ]
    clear hHeld
    refine wpAnyH_ready (rs := [39]) (by kernel_rfl) (by simp) ?_
    refine AllReadyH.cons (at_drop0 rfl) (fun K hK => ?_) AllReadyH.nil
    rw [if_pos (by rfl)]
    go_simp
    refine (HUN.out w6 HB6.out).mono ?_
    rintro e w7 ⟨m7, rfl, ho7, hk7, hb7⟩
    have HB7 : Hid (Below w'.heap.size w' w7) := bel_then HB6.out HB6.out.size hb7
    have HQ := hid (HEQ.out w7 m7 HB7.out ho7.inn (by
      constructor
      · rw [show m7.ks = gmM.1 from congrArg Prod.fst hk7]; decide
      · have := congrArg (fun x : Mk => x.2.length) hk7
        simp only [Mx.mk', List.length_map] at this
        rw [this]; decide))
    rw [hk7, decide_eq_true rfl] at HQ
    clear hb7 HB6 ho7 hk7
    obtain ⟨kp7, kc7, ks7, rp7, rc7, rs7⟩ := m7
    simp only [encMx, Mx.ksl, Mx.rsl] at HQ ⊢
    go_wp2_with fail
    refine hK.out _ _ ((HIN.out w7 HB7.out).1) (fun hHeld => ?_)
    clear hK K
    try simp only [Act.put, List.setIfInBounds_toArray, List.set_cons_zero, List.set_cons_succ]
    clear hHeld
    refine wpAnyH_ready (rs := [40]) (by kernel_rfl) (by simp) ?_
    refine AllReadyH.cons (at_drop0 rfl) (fun K hK => ?_) AllReadyH.nil
    rw [if_pos (by rfl)]
    go_simp
    refine HQ.out.mono ?_
    rintro e w8 ⟨rfl, hb8⟩
    have HB8 : Hid (Below w'.heap.size w' w8) := bel_then HB7.out HB7.out.size hb8
    clear hb8 HB7 HQ
    go_wp2_with fail
    refine hK.out _ _ ((HIN.out w8 HB8.out).1) (fun hHeld => ?_)
    clear hK K
    try simp only [Act.put, List.setIfInBounds_toArray, List.set_cons_zero, List.set_cons_succ]
    refine take_val (i := 41) (.bool true) rfl (by kernel_rfl) (by kernel_rfl) (by kernel_rfl) (fun _ _ _ h => h) (by rfl) (fun w hSw => by go_simp) hHeld ?_
    simp only [Act.put, List.setIfInBounds_toArray, List.set_cons_zero, List.set_cons_succ]
    refine take_val (i := 42) (.bool true) rfl (by kernel_rfl) (by kernel_rfl) (by kernel_rfl) (fun _ _ _ h => h) (by rfl) (fun w hSw => by go_simp) hHeld ?_
    simp only [Act.put, List.setIfInBounds_toArray, List.set_cons_zero, List.set_cons_succ]
    refine take_val (i := 43) (.agg #[.slice kp 1 kc, .slice rp 1 rc]) rfl (by kernel_rfl) (by kernel_rfl) (by kernel_rfl) (fun _ _ _ h => h) (by rfl) (fun w hSw => by go_simp) hHeld ?_
    simp only [Act.put, List.setIfInBounds_toArray, List.set_cons_zero, List.set_cons_succ]
    refine take_val (i := 44) (.agg #[.slice none 0 0, .slice none 0 0]) rfl (by kernel_rfl) (by kernel_rfl) (by kernel_rfl) (fun _ _ _ h => h) (by rfl) (fun w hSw => by go_simp) hHeld ?_
    simp only [Act.put, List.setIfInBounds_toArray, List.set_cons_zero, List.set_cons_succ]
    clear hHeld
    have HQ := hid (HEQ.out w8 ⟨none, 0, [], none, 0, []⟩ HB8.out ⟨KK.is_nil w8, KRx.is_nil w8, fun r hr => by cases hr⟩ ⟨by decide, by decide⟩)
    rw [show decide (gmM = (⟨none, 0, [], none, 0, []⟩ : Mx).mk') = false from gm_ne] at HQ
    simp only [Mx.ksl, Mx.rsl, List.length_nil] at HQ
    refine wpAnyH_ready (rs := [45]) (by kernel_rfl) (by simp) ?_
    refine AllReadyH.cons (at_drop0 rfl) (fun K hK => ?_) AllReadyH.nil
    rw [if_pos (by rfl)]
    go_simp
    refine HQ.out.mono ?_
    rintro e w9 ⟨rfl, hb9⟩
    have HB9 : Hid (Below w'.heap.size w' w9) := bel_then HB8.out HB8.out.size hb9
    clear hb9 HB8 HQ
    go_wp2_with fail
    refine hK.out _ _ ((HIN.out w9 HB9.out).1) (fun hHeld => ?_)
    clear hK K
    try simp only [Act.put, List.setIfInBounds_toArray, List.set_cons_zero, List.set_cons_succ]
    refine take_val (i := 46) (.bool true) rfl (by kernel_rfl) (by kernel_rfl) (by kernel_rfl) (fun _ _ _ h => h) (by rfl) (fun w hSw => by go_simp) hHeld ?_
    simp only [Act.put, List.setIfInBounds_toArray, List.set_cons_zero, List.set_cons_succ]
    refine take_val (i := 47) (.bool true) rfl (by kernel_rfl) (by kernel_rfl) (by kernel_rfl) (fun _ _ _ h => h) (by rfl) (fun w hSw => by go_simp) hHeld ?_
    simp only [Act.put, List.setIfInBounds_toArray, List.set_cons_zero, List.set_cons_succ]
    refine take_val (i := 48) (.bool true) rfl (by kernel_rfl) (by kernel_rfl) (by kernel_rfl) (fun _ _ _ h => h) (by rfl) (fun w hSw => by go_simp) hHeld ?_
    simp only [Act.put, List.setIfInBounds_toArray, List.set_cons_zero, List.set_cons_succ]
    refine wpAnyH_done (by kernel_rfl) ?_ _
    clear hHeld
    have HM9 := hid (HMI.out w9 HB9.out)
    go_wp2_with fail
    go_ret
    exact ⟨rfl, HM9.out⟩

end Go.Proofs.Ythdakljoabbghaa

/-
  For every range, every change and all finds the Go function MarksMisses of package foliolaw12 returns true, and its arguments read behind the call as they read before; no condition; over the contracts of package marks.
-/
namespace Go.Proofs.Ythdakljoabbghaa
open Go.ChangeShapes Go.WideShapes Go.ChangeAt Go.RowKit Go.Joins

set_option maxRecDepth 100000 in
theorem marksmisses_walked (S : MarksApi) {H : Type} {enc : TypeId × Value → H} (W : World) (base : Nat) (args : Array Value) (ds gs : List (DataW H)) (before : List MemPlace)
    (hval : ∀ (j : Nat) t v, Try.f6.params[j]? = some t → args[j]? = some v → Value.okWide Try.prog W .any base t v)
    (hW : DataW.Whole enc Try.prog Try.f6.params.toList Rows.marksMissesSpec.vars false W args.toList ds gs before)
    (hZ : (DataW.weightsEach Try.prog (Try.f6.params.toList ++ (OpenSpec.ofChange Rows.marksMissesSpec).bare.plain.varTypes Try.prog) (ds ++ gs)).all (· ≤ reachBytes) = true) :
    Calls Try.prog 6 args W fun e W' => ∃ v, e = .returned v ∧ Rows.marksMissesSpec.post enc Try.prog Try.f6 false true false false W args v W' := by
  have hW' := hW
  obtain ⟨p, q, hA0, hV, rfl, _, _⟩ := hW
  have hA : DataW.TrodAll enc Try.prog W 0 (fun _ => true) true Try.f6.params.toList args.toList ds p := hA0
  rw [Try.params6] at hA hval hZ
  obtain ⟨v0, vs0, d0, ds0, p0, q0, hargs, rfl, rfl, h0, r0⟩ := trodAll_cons hA
  obtain ⟨v1, vs1, d1, ds1, p1, q1, rfl, rfl, rfl, h1, r1⟩ := trodAll_cons r0
  obtain ⟨v2, vs2, d2, ds2, p2, q2, rfl, rfl, rfl, h2, r2⟩ := trodAll_cons r1
  obtain ⟨rfl, rfl, rfl⟩ := trodAll_nil r2
  obtain rfl : args = #[v0, v1, v2] := by cases args; simp_all
  obtain ⟨rfl, rfl⟩ := trodVars_none hV
  have lt0 : ∀ x ∈ p0, x.block < W.heap.size := by obtain ⟨m, hm⟩ := h0; exact DataW.trod_lt m _ _ _ hm
  have lt1 : ∀ x ∈ p1, x.block < W.heap.size := by obtain ⟨m, hm⟩ := h1; exact DataW.trod_lt m _ _ _ hm
  have lt2 : ∀ x ∈ p2, x.block < W.heap.size := by obtain ⟨m, hm⟩ := h2; exact DataW.trod_lt m _ _ _ hm
  have k0 := h0
  have k1 := h1
  have k2 := h2
  have hwalk : Calls Try.prog 6 #[v0, v1, v2] W fun e w' => e = .returned (.bool true) ∧ Below W.heap.size W w' := by
    have z0 : ∀ n ∈ d0.weights Try.prog 34, n ≤ reachBytes := fun n hn => by
      have := List.all_eq_true.1 hZ n (DataW.weights_mem_each (j := 0) rfl rfl n hn)
      simpa using this
    have z1 : ∀ n ∈ d1.weights Try.prog 43, n ≤ reachBytes := fun n hn => by
      have := List.all_eq_true.1 hZ n (DataW.weights_mem_each (j := 1) rfl rfl n hn)
      simpa using this
    have z2 : ∀ n ∈ d2.weights Try.prog 46, n ≤ reachBytes := fun n hn => by
      have := List.all_eq_true.1 hZ n (DataW.weights_mem_each (j := 2) rfl rfl n hn)
      simpa using this
    obtain ⟨r, rfl, hr⟩ := open_rangeM (hval 0 34 v0 rfl rfl) h0 z0
    obtain ⟨c, rfl, hc⟩ := open_changeM (hval 1 43 v1 rfl rfl) h1 z1
    obtain ⟨fo, hf1, hf2, hf3⟩ := open_fdsM (hval 2 46 v2 rfl rfl) h2 z2
    exact mmisses12_any S (fixed12_any S) r c v2 fo W hr hc ⟨hf1, hf2⟩ hf3
  clear hA0
  refine hwalk.mono fun o W' ⟨he, bel⟩ => ?_
  subst he
  exact ⟨_, rfl, _, _, _, [], _, [], hW', trodAll_mk1 (shut_bool Try.underlying4 _),
    (trodAll_cons_mk (Below.trod Try.laidOut (by kernel_rfl) (of_decide_eq_true (by kernel_rfl)) k0 bel lt0) (trodAll_cons_mk (Below.trod Try.laidOut (by kernel_rfl) (of_decide_eq_true (by kernel_rfl)) k1 bel lt1) (trodAll_cons_mk (Below.trod Try.laidOut (by kernel_rfl) (of_decide_eq_true (by kernel_rfl)) k2 bel lt2) trodAll_mk0))), rfl, bel.frame _, fun h => by cases h⟩

set_option maxRecDepth 100000 in
theorem marksmisses_free (S : MarksApi) (os : Os) (started : os.Started) (H : Type) (enc : TypeId × Value → H) :
    ReturnsInHanded {} Try.checked os 6 .any (Rows.marksMissesSpec.pre6 enc Try.prog Try.f6 Rows.marksMissesRow.domain false) (Rows.marksMissesSpec.post enc Try.prog Try.f6 false true false false) := by
  refine returnsInHanded_of_change_sized (C := Try.checked) Try.own started (by kernel_rfl) Try.func6
    (ChangeSpec.witness6 (enc := enc) (C := Try.checked) false ⟨#[], #[.agg #[.string ⟨#[]⟩, .slice none 0 0], .agg #[.string ⟨#[]⟩, .string ⟨#[]⟩, .bool false, .slice none 0 0, .bool false, .slice none 0 0], .slice none 0 0], []⟩ 8 (by kernel_rfl) (by kernel_rfl) (by kernel_rfl) (by kernel_rfl)) ?_
  intro W base args ds gs before hval hW _ hZ _
  exact marksmisses_walked S W base args ds gs before hval hW hZ

theorem marksmisses_of (S : MarksApi) : Rows.MarksMissesSaid :=
  OpenClaim.holds_of_wide 6 Try.f6 rfl rfl rfl rfl rfl rfl rfl ⟨rfl, rfl, rfl, rfl, rfl⟩ rfl rfl rfl rfl rfl (by kernel_rfl) Try.func6 (by kernel_rfl)
    (of_decide_eq_true (by kernel_rfl)) (by unfold Func.isWrapper; first | (rw [if_pos (by decide +kernel)]; kernel_rfl) | (rw [if_neg (by decide +kernel)]; exact ⟨rfl, rfl⟩))
    (fun os started H enc _ => marksmisses_free S os started H enc)

end Go.Proofs.Ythdakljoabbghaa
