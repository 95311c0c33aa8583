/-
  The walk of RefsOrder.
-/
import Derived.Test.YtinmagodckkedaaPe
import Derived.Test.YtinmagodckkedaaPd
import Derived.Deep.CutRange
import Derived.Deep.AppendLies
import Derived.BigQuiet
namespace Go.Proofs.Ytinmagodckkedaa
open Go.RowKit Go.Lib

theorem Try.infoBd : (Try.prog.info? 51).map (fun i => (i.zero, i.size, i.bytes)) = some (some (.agg #[.string ⟨#[]⟩, .string ⟨#[]⟩, .string ⟨#[]⟩]), 3, 48) := by kernel_rfl

/-- An append of a row that came in, whatever its length, at a step of a region that draws its order. -/
theorem step_append_bd {ops : Array Oper} {o : Oper} {a : Act} {K : Act → World → Prop} {Q : Exit → Act → World → Prop} {E : Prop} (w : World) (hgd : o.guard = none) (s x : Operand) (t : TypeId)
    (ho : o.op = .call { callee := .builtin .append, args := #[s, x], argTypes := #[t, t] })
    (base : Nat) (e : TypeId) (i : TypeInfo) (z : Value) (size bytes : Nat) (ht : Try.prog.underlying t = some (.slice e)) (hi : Try.prog.info? e = some i) (hz : i.zero = some z)
    (hsize : i.size = size) (hby : i.bytes = bytes) (hzs : z.cells.size = size) (hsz : 0 < size)
    (v : Value) (n : Nat) (xs : List Value) (hs : a.eval s = v) (hown : w.ownsRow base e size v n xs)
    (p : Option Addr) (m c : Nat) (news : List Value) (hx : a.eval x = .slice p m c) (hl : news.length = m * size)
    (hsrc : m = 0 ∨ ∃ ad, p = some ad ∧ ∀ j u, news[j]? = some u → w.cell? (ad.add j) = some u) (h1 : ∀ u ∈ news, u.oneCell' = true)
    (h63 : n + m ≤ maxLen) (hbytes : (n + m) * bytes ≤ 140737488355328) (hbase : base ≤ w.heap.size)
    (h : ∀ v' w', w'.ownsRow base e size v' (n + m) (xs ++ news) → w.grownBy w' v.ownBlock → K (a.put o.dst v') w') :
    if Region.wanted o (yielded ops a.tmps) = true then Oper.wp Try.prog o a w K Q else E := by
  by_cases hm : m = 0
  · have hw : Region.wanted o (yielded ops a.tmps) = true := by simp [Region.wanted, hgd]
    rw [if_pos hw]
    subst hm
    have hn : news = [] := List.length_eq_zero_iff.1 (by simpa using hl)
    subst hn
    obtain ⟨q, cap, hv, hcap, hq⟩ : ∃ q cap, v = .slice q n cap ∧ n ≤ cap ∧ (q = none → n = 0 ∧ cap = 0) := by
      rcases hown.2 with ⟨hv, h0⟩ | ⟨g, cap, cur, hv, _, _, hc, _⟩
      · exact ⟨none, 0, by rw [hv, h0], by omega, fun _ => ⟨h0, rfl⟩⟩
      · exact ⟨_, cap, hv, hc, fun h => by cases h⟩
    have hrun : (Builtin.append_ #[t, t] o.type #[.slice q n cap, .slice p 0 c]).run Try.prog w = .ok (.slice q n cap) w := by
      cases q with
      | none =>
        obtain ⟨rfl, rfl⟩ := hq rfl
        cases p <;> simp [Builtin.append_, run_underlying ht, Builtin.lenOf, Builtin.firstCells, sizeOf, typeInfo, hi, loadCells, loadCellsFrom]
      | some q =>
        cases p <;> simp [Builtin.append_, run_underlying ht, Builtin.lenOf, Builtin.firstCells, sizeOf, typeInfo, hi, storeCells, loadCells, loadCellsFrom, hcap]
    rw [hv] at hs
    unfold Oper.wp
    simp [execOp, ho, resolve, invoke, builtin, hs, hx, hrun, Result.andThen]
    refine h _ _ ?_ (grownBy_refl _ _)
    rw [← hv, List.append_nil]
    exact hown
  · rcases hsrc with h0 | ⟨ad, rfl, hc⟩
    · exact absurd h0 hm
    · exact step_append_lies w hgd s x t ho base e i z size bytes ht hi hz hsize hby hzs hsz v n xs hs hown ad m c news hx hl hc h1 (by omega) h63 hbytes hbase _ rfl (fun g cap w' h2 h3 _ _ => h _ w' h2 h3)

theorem turn_bd (tt : Int) (n : Nat) (h0 : n ≠ 0) (h1 : n ≤ 2000000) : ∃ m : Nat, m < n ∧ wrap64 ((IntKind.u64.wrap tt).tmod (n : Int)) = (m : Int) := by
  have hU : 0 ≤ IntKind.u64.wrap tt := by simp [IntKind.wrap, IntKind.signed, IntKind.bits]; omega
  generalize IntKind.u64.wrap tt = U at hU
  rw [Int.tmod_eq_emod_of_nonneg hU]
  have h2 := Int.emod_nonneg U (show (n : Int) ≠ 0 by omega)
  have h3 := Int.emod_lt_of_pos U (show (0 : Int) < n by omega)
  generalize U % (n : Int) = x at h2 h3
  refine ⟨x.toNat, by omega, ?_⟩
  have e : ((x.toNat : Nat) : Int) = x := by omega
  rw [e]
  simp [wrap64]
  omega

theorem bd_drop {w : World} {b off : Nat} {p : List Bd} (m : Nat) (h : KB.At w b off p) : KB.At w b (off + m * 3) (p.drop m) := fun i hi j u hu => by
  rw [List.length_drop] at hi
  have hu' : (KB.enc (p[m + i]'(by omega)))[j]? = some u := by rw [List.getElem_drop] at hu; exact hu
  have := h (m + i) (by omega) j u hu'
  have e : off + (m + i) * KB.k + j = off + m * 3 + i * KB.k + j := by rw [Nat.add_mul]; show off + (m * 3 + i * 3) + j = _; show _ = off + m * 3 + i * 3 + j; omega
  rwa [e] at this

theorem bd_take {w : World} {b off : Nat} {p : List Bd} (m : Nat) (h : KB.At w b off p) : KB.At w b off (p.take m) := fun i hi j u hu => by
  rw [List.length_take] at hi
  rw [List.getElem_take] at hu
  exact h i (by omega) j u hu

set_option maxHeartbeats 8000000 in
set_option maxRecDepth 100000 in
theorem order_any (v : Value) (pb : Option Addr) (cb : Nat) (tt : Int) (d : List Fx) (bs : List Bd) (w : World) (hv : IsXs w v d) (hvb : KB.Is w (.slice pb bs.length cb) bs) (hcb : bs.length ≤ cb) (hf : FitX d) (hc : CopyX d) (hT : (txtsX d).length ≤ 2000000) (hfb : FitBd bs) :
    Calls Try.prog 6 #[v, .slice pb bs.length cb, .int .i64 tt] w fun e w' => e = .returned (.bool true) ∧ Below w.heap.size w w' := by
  have H1 : Hid (∀ W cs u, Below w.heap.size w W → cs.Perm bs → KB.Is W u cs → Calls Try.prog 9 #[v, u] W fun e w' => AnsJ W (resAns bs (d.map Fx.fld)) (rsCode bs (d.map Fx.fld)) e w') := fun W cs u hW hp hu => by
    have hfc : FitBd cs := ⟨by rw [hp.length_eq]; exact hfb.1, fun x hx => hfb.2 x (hp.mem_iff.1 hx)⟩
    have := resolve_any v u d cs W (hv.kept hW) hu hf hc hT hfc
    rw [(res_perm 2 16 15 hp (d.map Fx.fld)).2] at this
    unfold rsCode at this ⊢
    rw [(res_perm 2 16 15 hp (d.map Fx.fld)).1] at this
    exact this
  have HFT : Hid (∀ o : List Fx, o.map Fx.fld = resAns bs (d.map Fx.fld) → FitX o) := fun o ho => fit_res hf ho
  obtain ⟨C, hC⟩ : ∃ C, rsCode bs (d.map Fx.fld) = C := ⟨_, rfl⟩
  obtain ⟨G, hG⟩ : ∃ G, resAns bs (d.map Fx.fld) = G := ⟨_, rfl⟩
  rw [hC, hG] at H1
  rw [hG] at HFT
  have hcc := int_same C
  have hl := hfb.1
  obtain ⟨j0, hj0, hy0, hy1, hy2⟩ := info_parts Try.infoBd
  have HJ := hid hj0
  have HV := hid hvb
  clear hv hvb hf hc hT hfb hC hG hj0
  go_enter Try.func6, Try.ntmps6
  go_wp2_with fail
  refine (rfixed_any _).mono ?_
  rintro e w1 ⟨rfl, hq1⟩
  have HB1 := hid hq1
  have hw1 := hq1.size
  clear hq1
  by_cases hn : bs.length = 0
  · have hz : ¬ (0 : Int) < (bs.length : Int) := by omega
    have HNIL : Hid (bs = []) := List.length_eq_zero_iff.1 hn
    clear hn
    go_wp2_with fail
    refine (H1.out w1 bs _ HB1.out (List.Perm.refl _) (Kind.is_kept HV.out HB1.out)).mono ?_
    rintro e w2 ⟨u2, o2, rfl, ho2, hm2, hq2⟩
    have HB2 := hid (bel_then HB1.out HB1.out.size hq2)
    have HI2 := hid ho2.1.is
    have HM2 := hid hm2
    clear ho2 hm2 hq2
    go_wp2_with fail
    refine (H1.out w2 [] _ HB2.out (by rw [HNIL.out]) ⟨none, 0, rfl, Or.inl rfl⟩).mono ?_
    rintro e w3 ⟨u3, o3, rfl, ho3, hm3, hq3⟩
    have HB3 := hid (bel_then HB2.out HB2.out.size hq3)
    have HS := hid (sameF_any u2 u3 o2 o3 w3 (HI2.out.kept hq3) ho3.1.is (HFT.out o2 HM2.out) (HFT.out o3 hm3))
    rw [HM2.out, hm3, decide_eq_true rfl] at HS
    clear ho3 hm3 hq3 H1 HM2 HI2
    go_wp2_with fail
    refine HS.out.mono ?_
    rintro e w4 ⟨rfl, n4, rfl⟩
    go_wp2_with fail
    go_ret
    exact ⟨rfl, bel_drewN HB3.out n4⟩
  · have hz : (0 : Int) < (bs.length : Int) := by omega
    have hz1 : ((bs.length : Int) == 0) = false := by simpa using hn
    have hz2 : ¬ (bs.length : Int) = 0 := by omega
    obtain ⟨m, hm, hmt⟩ := turn_bd tt bs.length hn (by omega)
    obtain ⟨b, off, rfl, hat⟩ : ∃ b off, pb = some ⟨b, off, none⟩ ∧ KB.At w b off bs := by
      obtain ⟨x, y, h1, h2⟩ := HV.out
      cases h1
      rcases h2 with h | h
      · rw [h] at hn; exact absurd rfl hn
      · exact h
    have HAT := hid hat
    have HMT := hid hmt
    clear hat hmt
    have hm1 : (0 : Int) ≤ (m : Int) := by omega
    have hm2 : (m : Int) ≤ (bs.length : Int) := by omega
    have hm3 : (m : Int) ≤ (cb : Int) := by omega
    have hm4 : (bs.length : Int) ≤ (cb : Int) := by omega
    have hm5 : ¬ cb = m := by omega
    go_upto_region 6 with fail
    rw [HMT.out]
    have HBD : Hid (Below w.heap.size w w1.drew) := HB1.out.drew
    have HN0 : Hid (KB.Own w.heap.size w1.drew (.slice none 0 0) []) := World.ownsRow_nil _ _ _ _
    have KSA : Hid (∀ W, Below w.heap.size w W → bs.length - m = 0 ∨ ∃ ad, some (⟨b, off + m * 3, none⟩ : Addr) = some ad ∧ ∀ j u, (KB.cells (bs.drop m))[j]? = some u → W.cell? (ad.add j) = some u) := fun W hW => by
      rw [← List.length_drop]
      exact Kind.src (Or.inr ⟨_, _, rfl, bd_drop m (Kind.at_kept HAT.out hW)⟩)
    have KSB : Hid (∀ W, Below w.heap.size w W → m = 0 ∨ ∃ ad, some (⟨b, off, none⟩ : Addr) = some ad ∧ ∀ j u, (KB.cells (bs.take m))[j]? = some u → W.cell? (ad.add j) = some u) := fun W hW => by
      have := Kind.src (K := KB) (Or.inr ⟨_, _, rfl, bd_take m (Kind.at_kept HAT.out hW)⟩)
      rw [List.length_take, Nat.min_eq_left (by omega)] at this
      exact this
    unfold Kind.Own at HN0
    go_region_held3 (fun _ => True) (trivial)
      (first
        | (refine step_append_bd _ (by rfl) (.tmp 25) (.tmp 28) 23 (by rfl) w.heap.size 51 j0 (.agg #[.string ⟨#[]⟩, .string ⟨#[]⟩, .string ⟨#[]⟩]) 3 48 Try.underlying23 HJ.out hy0 hy1 hy2 rfl (by decide) _ _ _ (by rfl) HN0.out _ (bs.length - m) _ (KB.cells (bs.drop m)) (by rfl) (by rw [KB.cells_len, List.length_drop]; rfl) (KSA.out _ HBD.out) (KB.cells_ones _) (by unfold maxLen; simp; omega) (by simp; omega) (HBD.out.size) ?_; intro v2 w2 hown2 hg2; have hb2 : Below w.heap.size w w2 := HBD.out.grown hg2 HBD.out.size (fun k hk => (World.ownsRow.lt HN0.out k hk).1); have hw2 := hb2.size; have HO2 := hid hown2; have HB2 := hid hb2; clear hown2 hg2 hb2)
        | (refine step_append_bd _ (by rfl) (.tmp 29) (.tmp 32) 23 (by rfl) w.heap.size 51 j0 (.agg #[.string ⟨#[]⟩, .string ⟨#[]⟩, .string ⟨#[]⟩]) 3 48 Try.underlying23 HJ.out hy0 hy1 hy2 rfl (by decide) _ _ _ (by rfl) HO2.out _ m _ (KB.cells (bs.take m)) (by rfl) (by rw [KB.cells_len, List.length_take, Nat.min_eq_left (by omega)]; rfl) (KSB.out _ HB2.out) (KB.cells_ones _) (by unfold maxLen; simp; omega) (by simp; omega) hw2 ?_; intro v3 w3 hown3 hg3))
    have hob : KB.Own w.heap.size w3 v3 (bs.drop m ++ bs.take m) := by
      show w3.ownsRow w.heap.size 51 3 v3 (bs.drop m ++ bs.take m).length (KB.cells (bs.drop m ++ bs.take m))
      rw [KB.cells_append, List.length_append, List.length_drop, List.length_take, Nat.min_eq_left (by omega)]
      simpa [Kind.cells] using hown3
    have hb3 : Below w.heap.size w w3 := HB2.out.grown hg3 hw2 (fun k hk => (World.ownsRow.lt HO2.out k hk).1)
    have HB3 := hid hb3
    have HOB := hid hob
    have hw3 := hb3.size
    clear hown3 hg3 hob hb3 HO2 HB2 HN0 HBD hw2 hw1 KSA KSB hm5 hm3 hm4
    go_wp2_with fail
    refine (H1.out w3 bs _ HB3.out (List.Perm.refl _) (Kind.is_kept HV.out HB3.out)).mono ?_
    rintro e w4 ⟨u4, o4, rfl, ho4, hm4, hq4⟩
    have HB4 := hid (bel_then HB3.out HB3.out.size hq4)
    have OB4 := hid (Kind.own_on HOB.out hq4)
    have HI4 := hid ho4.1.is
    have HM4 := hid hm4
    clear ho4 hm4 hq4
    go_wp2_with fail
    refine (H1.out w4 (bs.drop m ++ bs.take m) _ HB4.out (perm_turn bs m) (Kind.own_is OB4.out)).mono ?_
    rintro e w5 ⟨u5, o5, rfl, ho5, hm5, hq5⟩
    have HB5 := hid (bel_then HB4.out HB4.out.size hq5)
    have HS := hid (sameF_any u4 u5 o4 o5 w5 (HI4.out.kept hq5) ho5.1.is (HFT.out o4 HM4.out) (HFT.out o5 hm5))
    rw [HM4.out, hm5, decide_eq_true rfl] at HS
    clear ho5 hm5 hq5 H1 HM4 HI4
    go_wp2_with fail
    refine HS.out.mono ?_
    rintro e w6 ⟨rfl, n6, rfl⟩
    go_wp2_with fail
    go_ret
    exact ⟨rfl, bel_drewN HB5.out n6⟩

end Go.Proofs.Ytinmagodckkedaa
