/-
  The contract of joined.
-/
import Derived.Test.YtmjchokacmbkoabDoorJob
import Derived.Test.YtmjchokacmbkoabDoorStf
namespace Go.Proofs.YtmjchokacmbkoabDoor
open Go.RowKit Go.Sort Go.Lib

/-- An append of no text. -/
theorem step_txt0 {ops : Array Oper} {o : Oper} {a : Act} {K : Act → World → Prop} {Q : Exit → Act → World → Prop} {E : Prop} (w : World) (hgd : o.guard = none) (s x : Operand)
    (ho : o.op = .call { callee := .builtin .append, args := #[s, x], argTypes := #[28, 28] }) (q : Option Addr) (n cap : Nat) (p : Option Addr) (c : Nat)
    (hs : a.eval s = .slice q n cap) (hcap : n ≤ cap) (hx : a.eval x = .slice p 0 c) (hq : q = none → n = 0 ∧ cap = 0)
    (h : K (a.put o.dst (.slice q n cap)) w) :
    if Region.wanted o (yielded ops a.tmps) = true then Oper.wp Tryd.prog o a w K Q else E := by
  have hw : Region.wanted o (yielded ops a.tmps) = true := by simp [Region.wanted, hgd]
  rw [if_pos hw]
  obtain ⟨i0, hi0, _, _, _⟩ := info_parts Tryd.infoStr
  have hrun : (Builtin.append_ #[28, 28] o.type #[.slice q n cap, .slice p 0 c]).run Tryd.prog w = .ok (.slice q n cap) w := by
    cases q with
    | none =>
      obtain ⟨rfl, rfl⟩ := hq rfl
      cases p <;> simp [Builtin.append_, run_underlying Tryd.underlying28, Builtin.lenOf, Builtin.firstCells, sizeOf, typeInfo, hi0, loadCells, loadCellsFrom]
    | some q =>
      cases p <;> simp [Builtin.append_, run_underlying Tryd.underlying28, Builtin.lenOf, Builtin.firstCells, sizeOf, typeInfo, hi0, storeCells, loadCells, loadCellsFrom, hcap]
  unfold Oper.wp
  simp [execOp, ho, resolve, invoke, builtin, hs, hx, hrun, Result.andThen]
  exact h

/-- The last field's texts are stored as they were. -/
theorem joined_kept {N : Nat} {w : World} {o : List Fx} {x : Fx} {go cp : Nat} (h : OwnJ N w (.slice (some ⟨go, 0, none⟩) (o.length + 1) cp) (o ++ [x])) :
    OwnJ N (w.setCell ⟨go, o.length * 2 + 1, none⟩ x.sl) (.slice (some ⟨go, 0, none⟩) (o.length + 1) cp) (o ++ [x]) := by
  obtain ⟨⟨hrow, htx⟩, hap⟩ := h
  have hlen : (o ++ [x]).length = o.length + 1 := by simp
  rw [hlen] at hrow
  have hst := hrow.stored (o.length * 2 + 1) x.sl
  have hget := (cellsX_get (o ++ [x]) o.length (by simp)).2
  simp only [List.getElem_concat_length] at hget
  have e1 : (cellsX (o ++ [x])).set (o.length * 2 + 1) x.sl = cellsX (o ++ [x]) := by
    apply List.ext_getElem?
    intro j
    rw [List.getElem?_set]
    split
    · rename_i hj
      subst hj
      rw [if_pos (by rw [cellsX_len]; simp; omega)]
      exact hget.symm
    · rfl
  rw [e1] at hst
  refine ⟨⟨by rw [hlen]; exact hst.1, fun y hy => own_else (htx y hy) hrow (by decide) (grown_set w go _ _)⟩, hap⟩

/-- One field more, its texts in a new row. -/
theorem joined_put {N : Nat} {w w4 : World} {v v' : Value} {o : List Fx} {x : Fx} {M : Nat} (h : OwnJ N w v o) (hx : OwnT M w x.sl x.txt) (hM : ∀ y ∈ o, ∀ k, y.sl.ownBlock = some k → k < M) (hNM : N ≤ M)
    (hown : w4.ownsRow N 30 2 v' (o.length + 1) (cellsX o ++ cellsX [x])) (hg : w.grownBy w4 v.ownBlock) : OwnJ N w4 v' (o ++ [x]) := by
  refine ⟨h.1.put (own_weak hx hNM) hown hg, apart_snoc h.2 fun y hy => ?_⟩
  rcases hb : y.sl.ownBlock with _ | k
  · exact Or.inl rfl
  · right
    intro e
    have h1 := hM y hy k hb
    have h2 := (World.ownsRow.lt hx k e.symm).1
    omega

theorem two_one (n : ByteArray) (p : Option Addr) (k c : Nat) : ∀ u ∈ [Value.string n, Value.slice p k c], u.oneCell' = true := by
  intro u hu
  simp at hu
  rcases hu with rfl | rfl <;> rfl

/-- The field f lies in a block of its own. -/
def NewX (w : World) (B : Nat) (f : Fx) : Prop := w.heap[B]? = some (.cells #[.string f.name, .slice f.p f.txt.length f.cap] 30 (0, 0))

/-- An append of one field, at a step of a region that draws. -/
theorem step_putX {ops : Array Oper} {o : Oper} {a : Act} {K : Act → World → Prop} {Q : Exit → Act → World → Prop} {E : Prop} (w : World) (hgd : o.guard = none) (s x : Operand)
    (ho : o.op = .call { callee := .builtin .append, args := #[s, x], argTypes := #[22, 22] }) (N : Nat) (v : Value) (os : List Fx) (n : Nat) (hs : a.eval s = v) (hoj : OwnJ N w v os) (hn : os.length = n) (B : Nat) (f : Fx)
    (hx : a.eval x = .slice (some ⟨B, 0, none⟩) 1 1) (hB : NewX w B f) (hl : (n + 1) * 40 ≤ 140737488355328) (hN : N ≤ w.heap.size)
    (h : ∀ g cap w', w'.ownsRow N 30 2 (.slice (some ⟨g, 0, none⟩) (n + 1) cap) (n + 1) (cellsX os ++ cellsX [f]) → w.grownBy w' v.ownBlock → K (a.put o.dst (.slice (some ⟨g, 0, none⟩) (n + 1) cap)) w') :
    if Region.wanted o (yielded ops a.tmps) = true then Oper.wp Tryd.prog o a w K Q else E := by
  subst hn
  obtain ⟨j0, hj, hj0, hj1, hj2⟩ := info_parts Tryd.infoFld
  refine step_append_lies w hgd s x 22 ho N 30 j0 (.agg #[.string ⟨#[]⟩, .slice none 0 0]) 2 40 Tryd.underlying22 hj hj0 hj1 hj2 rfl (by decide) v os.length (cellsX os) hs hoj.1.1 ⟨B, 0, none⟩ 1 1 (cellsX [f]) hx rfl (fun j u hju => ?_) (cellsX_one _) (by decide) (by unfold maxLen; omega) hl hN _ rfl (fun g cap w' h1 h2 _ _ => h g cap w' h1 h2)
  exact World.news_of_block hB j u hju

/-- The state of joined's loop. -/
def JoinSt (w2 : World) (ds : List Fx) (i : Nat) (v : Value) (wr : World) : Prop :=
  ∃ o : List Fx, OwnJ w2.heap.size wr v o ∧ o.map Fx.fld = joinS ((ds.map Fx.fld).take i) ∧ Below w2.heap.size w2 wr

theorem sl_shape {n0 : Nat} {w : World} {x : Fx} (h : OwnT n0 w x.sl x.txt) : x.txt.length ≤ x.cap ∧ (x.p = none → x.txt.length = 0 ∧ x.cap = 0) := by
  rcases h.2 with ⟨hv, h0⟩ | ⟨g, cap, cur, hv, _, _, h1, _⟩
  · unfold Fx.sl at hv
    injection hv with h1 h2 h3
    rw [h0, h3]
    exact ⟨Nat.le_refl _, fun _ => ⟨rfl, rfl⟩⟩
  · unfold Fx.sl at hv
    injection hv with h3 h4 h5
    rw [h5]
    exact ⟨h1, fun h => by rw [h3] at h; cases h⟩

/-- ds is d, sorted by name, equals in their order. -/
def SortOf (d ds : List Fx) : Prop := ds.Perm d ∧ (ds.Pairwise fun x y => ltOf cmpF y x = false) ∧ ∀ c, ds.filter (fun x => decide (x.name = c)) = d.filter fun x => decide (x.name = c)

theorem sortX_any (u : Value) (d : List Fx) (n0 : Nat) (w : World) (hn : n0 ≤ w.heap.size) (ho : w.ownsRow n0 30 2 u d.length (cellsX d)) (h20 : d.length < 1152921504606846976) :
    Calls Tryd.prog 45 #[u, .func (.func 46) #[] #[]] w fun e w' =>
      e = .returned (.tuple #[]) ∧ ∃ (ds : List Fx) (p : Option Addr) (cap : Nat), u = .slice p ds.length cap ∧ (ds = [] ∨ ∃ g, p = some ⟨g, 0, none⟩ ∧ XsAt w' g 0 ds) ∧ SortOf d ds ∧ Below n0 w w' := by
  rcases ho.2 with ⟨rfl, h0⟩ | ⟨g, cap, cur, rfl, hN, hg, _, _, hsz, htk⟩
  · obtain rfl := List.length_eq_zero_iff.1 h0
    refine (sort_none none 0 _ w).mono ?_
    rintro e w' ⟨rfl, rfl⟩
    exact ⟨rfl, [], none, 0, rfl, Or.inl rfl, ⟨List.Perm.refl _, List.Pairwise.nil, fun _ => rfl⟩, Below.refl _ _⟩
  · have hgl := (Array.getElem?_eq_some_iff.1 hg).1
    have hH : HoldsK encX 2 w g 0 d.toArray := holds_of_heap d.toArray hg (by simpa using htk)
    have hs : d.toArray.size = d.length := by simp
    have hc := sort_any g 0 cap d.toArray w hH hgl (by rw [hs]; exact h20)
    rw [hs] at hc
    refine hc.mono ?_
    rintro e w' ⟨rfl, hso⟩
    obtain ⟨ds, h1, h2, h3, h4, h5⟩ := sorted_xs hH hgl hso
    obtain ⟨d', n, os, _, _, _, hw⟩ := hso
    refine ⟨rfl, ds, _, cap, by rw [h1, hs], Or.inr ⟨g, rfl, h2⟩, ⟨by simpa using h3, h4, by simpa using h5⟩, ?_⟩
    rw [hw]
    exact below_sortWorld (Below.refl _ _) hn g 0 n d' os hN

def JoinPost (w : World) (d : List Fx) (e : Ending) (w' : World) : Prop :=
  ∃ (u : Value) (ds o : List Fx), e = .returned u ∧ SortOf d ds ∧ OwnJ w.heap.size w' u o ∧ o.map Fx.fld = joinS (ds.map Fx.fld) ∧ Below w.heap.size w w'

set_option maxHeartbeats 8000000 in
set_option maxRecDepth 100000 in
theorem joined_any (v : Value) (d : List Fx) (w : World) (hv : IsXs w v d) (hl : d.length * 40 ≤ 140737488355328) (htot : totF (d.map Fx.fld) * 16 ≤ 140737488355328) :
    Calls Tryd.prog 25 #[v] w fun e w' => JoinPost w d e w' := by
  obtain ⟨i0, hi, hz0, hz1, hz2⟩ := info_parts Tryd.infoStr
  obtain ⟨j0, hj, hj0, hj1, hj2⟩ := info_parts Tryd.infoFld
  have HI := hid hi
  have HJ := hid hj
  have HC := hid (cloneX_any v d w hv hl)
  have HTX := hid hv.at_all
  have HTOT := hid htot
  have HL := hid hl
  have h20 : d.length < 1152921504606846976 := by omega
  clear hv hi hj htot hl
  go_enter Tryd.func25, Tryd.ntmps25
  go_wp2_with (first | (go_at_call 44; refine HC.out.mono ?_; rintro e w1 ⟨u1, rfl, ho1, hb1⟩) | (go_at_call 45; refine (sortX_any _ d w.heap.size _ hb1.size ho1 h20).mono ?_; rintro e w2 ⟨rfl, ds, p, cap, rfl, hds, hso, hb2⟩; have HDS := hid hds; have HSO := hid hso; clear hds hso))
  have hbw2 : Below w.heap.size w w2 := hb1.trans hb2
  have hlen : ds.length = d.length := HSO.out.1.length_eq
  have hlz : ds.length ≤ 9223372036854775807 := by omega
  have HTD : Hid (∀ x ∈ ds, x.at w2) := fun x hx => (HTX.out x (HSO.out.1.mem_iff.1 hx)).kept hbw2
  have HTT : Hid (totF (ds.map Fx.fld) * 16 ≤ 140737488355328) := by
    have : totF (ds.map Fx.fld) = totF (d.map Fx.fld) := ((HSO.out.1.map Fx.fld).map _).sum_nat
    show _ ≤ _
    rw [this]; exact HTOT.out
  have HB2 := hid hbw2
  have HL2 : Hid (ds.length * 40 ≤ 140737488355328) := by show _ ≤ _; rw [hlen]; exact HL.out
  clear ho1 hb1 hb2 hbw2 hlen
  have ST0 : Hid (JoinSt w2 ds 0 (.slice none 0 0) w2) := ⟨[], ⟨⟨World.ownsRow_nil _ _ _ _, fun x hx => by simp at hx⟩, List.Pairwise.nil⟩, rfl, Below.refl _ _⟩
  go_loopg [4, 14] ds.length (fun g v4 vi wr => ∃ i : Nat, vi = .int .i64 i ∧ i ≤ ds.length ∧ ds.length - i ≤ g ∧ JoinSt w2 ds i v4 wr)
  case atStart => exact ⟨0, rfl, by omega, by omega, ST0.out⟩
  case round =>
    obtain ⟨i, rfl, hi, hgk, o, hoj, hmap, hb⟩ := hrel
    by_cases hlt : i < ds.length
    · have hltz : (i : Int) < (ds.length : Int) := by omega
      have hiz : (0 : Int) ≤ i := by omega
      obtain ⟨g, rfl, hxs⟩ : ∃ g, p = some ⟨g, 0, none⟩ ∧ XsAt w2 g 0 ds := by
        rcases HDS.out with h | h
        · rw [h] at hlt; simp at hlt
        · exact h
      have hcs := hxs i hlt
      have c0 : wr.cell? ⟨g, i * 2, none⟩ = some (.string ds[i].name) := by
        have := (hb.cell (p := ⟨g, 0 + i * 2, none⟩) (cell_block hcs.1)).trans hcs.1
        simpa using this
      have c1 : wr.cell? ⟨g, i * 2 + 1, none⟩ = some ds[i].sl := by
        have := (hb.cell (p := ⟨g, 0 + i * 2 + 1, none⟩) (cell_block hcs.2)).trans hcs.2
        simpa using this
      have hfi : (ds[i]).at w2 := HTD.out _ (List.getElem_mem hlt)
      have htk : (ds.map Fx.fld).take (i + 1) = (ds.map Fx.fld).take i ++ [ds[i].fld] := by
        rw [List.take_succ_eq_append_getElem (by rw [List.length_map]; exact hlt)]; simp
      obtain ⟨f, hf⟩ : ∃ f, ds[i] = f := ⟨_, rfl⟩
      rw [hf] at c0 c1 hfi htk
      have hbound : (totF (o.map Fx.fld) + f.txt.length) * 16 ≤ 140737488355328 := by
        have h1 : totF ((ds.map Fx.fld).take (i + 1)) ≤ totF (ds.map Fx.fld) := by
          conv => rhs; rw [← List.take_append_drop (i + 1) (ds.map Fx.fld), totF_append]
          omega
        rw [htk, totF_append, totF_one, ← totF_joinS, ← hmap] at h1
        have h2 := HTT.out
        have h3 : (f.fld).2.length = f.txt.length := rfl
        omega
      have holen : o.length ≤ i := by
        have h1 := joinS_len ((ds.map Fx.fld).take i)
        rw [← hmap, List.length_map, List.length_take] at h1
        omega
      have HBND := hid hbound
      have HFI := hid (hfi.kept hb)
      have HNX : Hid (joinS ((ds.map Fx.fld).take (i + 1)) = joinStep (o.map Fx.fld) f.fld) := by show _ = _; rw [htk, joinS_snoc, hmap]
      have HB := hid hb
      have hsz := hb.size
      clear hxs hcs hfi htk hf hmap hb hbound
      unfold Fx.sl at c1
      rcases List.eq_nil_or_concat o with rfl | ⟨o', x, rfl⟩
      · obtain ⟨p4, cp4, rfl⟩ : ∃ p cp, u4 = .slice p 0 cp := by
          rcases hoj.1.1.2 with ⟨hv, _⟩ | ⟨g4, cap4, cur, hv, _⟩
          · exact ⟨none, 0, hv⟩
          · exact ⟨_, _, hv⟩
        have HUL : Hid (∀ k, (Value.slice p4 0 cp4).ownBlock = some k → k < wr.heap.size) := fun k hk => (World.ownsRow.lt hoj.1.1 k hk).2
        have cb : decide ((0 : Int) ≤ -1) = false := by decide
        have HOJ := hid hoj
        clear hoj
        go_wp2_with fail
        obtain ⟨W1, hW1⟩ : ∃ W1, wr.alloc (.cells #[.string f.name, .slice f.p f.txt.length f.cap] 30) = W1 := ⟨_, rfl⟩
        have hgr1 : Below wr.heap.size wr W1 := by rw [← hW1]; exact (Below.refl _ _).alloc (Nat.le_refl _) _
        have b0 : W1.cell? ⟨wr.heap.size, 0, none⟩ = some (.string f.name) := by rw [← hW1]; simp
        have b1 : W1.cell? ⟨wr.heap.size, 1, none⟩ = some (.slice f.p f.txt.length f.cap) := by rw [← hW1]; simp
        have HOJ1 := hid (HOJ.out.on hgr1)
        have HFI1 := hid (HFI.out.kept hgr1)
        have HB1 := hid (HB.out.trans (hgr1.mono hsz))
        have HJS : Hid (joinStep (([] : List Fx).map Fx.fld) f.fld = (([] : List Fx).map Fx.fld) ++ [f.fld]) := rfl
        rw [hW1]
        clear c0 c1 hgr1 hW1
        · go_quiet (fail)
          go_wp2_with fail
          have b0' : (W1.drewN nq).cell? ⟨wr.heap.size, 0, none⟩ = some (.string f.name) := b0
          have b1' : (W1.drewN nq).cell? ⟨wr.heap.size, 1, none⟩ = some (.slice f.p f.txt.length f.cap) := b1
          have HOJ2 : Hid (OwnJ w2.heap.size (W1.drewN nq).drew (.slice p4 0 cp4) []) := HOJ1.out
          have HFI2 : Hid (f.at (W1.drewN nq)) := HFI1.out
          have HB3 : Hid (Below w2.heap.size w2 (W1.drewN nq).drew) := (bel_drewN HB1.out nq).drew
          clear b0 b1
          generalize W1.drewN nq = W2 at b0' b1' HOJ2 HFI2 HB3 ⊢
          have F0 : Hid (∀ w' : World, Below W2.drew.heap.size W2.drew w' → w'.cell? ⟨wr.heap.size, 0, none⟩ = some (.string f.name) ∧ w'.cell? ⟨wr.heap.size, 1, none⟩ = some (.slice f.p f.txt.length f.cap)) := fun w' hb => ⟨(hb.cell (p := ⟨wr.heap.size, 0, none⟩) (cell_block (w := W2.drew) b0')).trans b0', (hb.cell (p := ⟨wr.heap.size, 1, none⟩) (cell_block (w := W2.drew) b1')).trans b1'⟩
          have HCT := hid (cloneT_any f.p f.cap f.txt W2.drew HFI2.out (by have := HBND.out; omega))
          have hFl : wr.heap.size < W2.heap.size := cell_block b0'
          have FA : Hid (∀ w3 w4 : World, (w3.cell? ⟨wr.heap.size, 0, none⟩ = some (.string f.name) ∧ w3.cell? ⟨wr.heap.size, 1, none⟩ = some (.slice f.p f.txt.length f.cap)) → w3.grownBy w4 (Value.slice p4 0 cp4).ownBlock → w4.cell? ⟨wr.heap.size, 0, none⟩ = some (.string f.name) ∧ w4.cell? ⟨wr.heap.size, 1, none⟩ = some (.slice f.p f.txt.length f.cap)) := fun w3 w4 h hg =>
            ⟨(hg.cell_far ⟨wr.heap.size, 0, none⟩ (cell_block h.1) (fun e => Nat.lt_irrefl _ (HUL.out _ e.symm))).trans h.1, (hg.cell_far ⟨wr.heap.size, 1, none⟩ (cell_block h.2) (fun e => Nat.lt_irrefl _ (HUL.out _ e.symm))).trans h.2⟩
          go_region_held3 (fun w' => w'.cell? ⟨wr.heap.size, 0, none⟩ = some (.string f.name) ∧ w'.cell? ⟨wr.heap.size, 1, none⟩ = some (.slice f.p f.txt.length f.cap))
            (first | exact ⟨b0', b1'⟩ | exact q5 | exact q6 | exact q7)
            (first
              | (go_at_call 29; refine HCT.out.mono ?_; rintro e w5 ⟨sv, rfl, hot5, hb5⟩; obtain ⟨pc, capc, rfl⟩ := own_slice hot5; have q5 := F0.out w5 hb5; have hb6 : Below W2.drew.heap.size W2.drew (w5.alloc (.cells #[.string f.name, .slice pc f.txt.length capc] 30)) := Below.alloc hb5 hb5.size _; have q6 := F0.out _ hb6; have hoj6 : OwnJ w2.heap.size (w5.alloc (.cells #[.string f.name, .slice pc f.txt.length capc] 30)) (Value.slice p4 0 cp4) ([] : List Fx) := OwnJ.on (w := W2.drew) HOJ2.out hb6; have hnew6 : NewX (w5.alloc (.cells #[.string f.name, .slice pc f.txt.length capc] 30)) w5.heap.size ⟨f.name, pc, capc, f.txt⟩ := heap_alloc_new w5 _; have hbase6 : w2.heap.size ≤ (w5.alloc (.cells #[.string f.name, .slice pc f.txt.length capc] 30)).heap.size := Nat.le_trans HB3.out.size hb6.size)
              | (refine step_putX _ (by rfl) (.tmp 45) (.tmp 52) (by rfl) w2.heap.size (Value.slice p4 0 cp4) ([] : List Fx) 0 (by rfl) (by assumption) (by simp) _ _ (by rfl) (by assumption) (by have := HL2.out; omega) (by assumption) ?_; intro g7 cap7 w7 hown7 hg7; have q7 := FA.out _ _ (by assumption) hg7))
          have hoj7 := joined_put (x := ⟨f.name, pc, capc, f.txt⟩) (M := W2.drew.heap.size) hoj6 (OwnT.on hot5 ((Below.refl _ _).alloc (Nat.le_refl _) _)) (fun y hy k hk => (World.ownsRow.lt (HOJ2.out.1.2 y hy) k hk).2) HB3.out.size hown7 hg7
          have HB7 : Hid (Below w2.heap.size w2 w7) := (HB3.out.trans (hb6.mono HB3.out.size)).grown hg7 hbase6 (fun k hk => (World.ownsRow.lt hoj6.1.1 k hk).1)
          have HOJ7 := hid hoj7
          clear hoj7 hown7 hg7 hoj6 hnew6 hot5 hb5 hb6 q5 q6 q7
          go_wp2_with fail
          go_roundg (ds.length - (i + 1))
          case measure => omega
          refine ⟨i + 1, by go_num, by omega, by omega, _, HOJ7.out, ?_, HB7.out⟩
          rw [HNX.out, HJS.out, List.map_append]
          rfl
      · rw [List.concat_eq_append] at *
        obtain ⟨go, cp, rfl, hNgo, hgol⟩ := hoj.1.1.form (by simp)
        have hol : (o' ++ [x]).length = o'.length + 1 := by simp
        rw [hol] at hoj ⊢ holen
        have hgo0 : wr.cell? ⟨go, o'.length * 2, none⟩ = some (.string x.name) := by
          have h1 := hoj.1.1
          rw [hol] at h1
          have h2 := cellsX_get (o' ++ [x]) o'.length (by simp)
          simp only [List.getElem_concat_length] at h2
          rw [h1.cellAt _ (by omega)]; exact h2.1
        have hgo1 : wr.cell? ⟨go, o'.length * 2 + 1, none⟩ = some (.slice x.p x.txt.length x.cap) := by
          have h1 := hoj.1.1
          rw [hol] at h1
          have h2 := cellsX_get (o' ++ [x]) o'.length (by simp)
          simp only [List.getElem_concat_length] at h2
          rw [h1.cellAt _ (by omega)]; exact h2.2
        have hz : (o'.length : Int) + 1 - 1 = (o'.length : Int) := by omega
        have z1 : (0 : Int) ≤ (o'.length : Int) := by omega
        have z2 : (o'.length : Int) < (o'.length : Int) + 1 := by omega
        have z3 : o'.length ≤ 9223372036854775806 := by omega
        have HOJ := hid hoj
        clear hoj
        go_wp2_with fail
        obtain ⟨W1, hW1⟩ : ∃ W1, wr.alloc (.cells #[.string f.name, .slice f.p f.txt.length f.cap] 30) = W1 := ⟨_, rfl⟩
        have hgr1 : Below wr.heap.size wr W1 := by rw [← hW1]; exact (Below.refl _ _).alloc (Nat.le_refl _) _
        have b0 : W1.cell? ⟨wr.heap.size, 0, none⟩ = some (.string f.name) := by rw [← hW1]; simp
        have b1 : W1.cell? ⟨wr.heap.size, 1, none⟩ = some (.slice f.p f.txt.length f.cap) := by rw [← hW1]; simp
        have r0 : W1.cell? ⟨go, o'.length * 2, none⟩ = some (.string x.name) := (hgr1.cell (p := ⟨go, o'.length * 2, none⟩) hgol).trans hgo0
        have r1 : W1.cell? ⟨go, o'.length * 2 + 1, none⟩ = some (.slice x.p x.txt.length x.cap) := (hgr1.cell (p := ⟨go, o'.length * 2 + 1, none⟩) hgol).trans hgo1
        have HOJ1 := hid (HOJ.out.on hgr1)
        have HFI1 := hid (HFI.out.kept hgr1)
        have HB1 := hid (HB.out.trans (hgr1.mono hsz))
        rw [hW1]
        clear c0 c1 hgo0 hgo1 hgr1 hW1
        cases hq : (x.name.toList == f.name.toList) with
        | true =>
          have hnm : x.name = f.name := by rw [toList_eq, decide_eq_true_eq] at hq; exact hq
          have HJS : Hid (joinStep ((o' ++ [x]).map Fx.fld) f.fld = (o'.map Fx.fld) ++ [(x.name, x.txt ++ f.txt)]) := by
            show _ = _
            rw [List.map_append]
            exact joinStep_same _ _ _ hnm
          have hxt : x.txt.length + f.txt.length ≤ totF ((o' ++ [x]).map Fx.fld) + f.txt.length := by
            have := totF_mem (fs := (o' ++ [x]).map Fx.fld) (f := x.fld) (List.mem_map.2 ⟨x, by simp, rfl⟩)
            simp only [Fx.fld] at this; omega
          have hxb : (x.txt.length + f.txt.length) * 16 ≤ 140737488355328 := by have := HBND.out; omega
          clear hxt hnm
          go_quiet (fail)
          go_wp2_with fail
          have b1' : (W1.drewN nq).cell? ⟨wr.heap.size, 1, none⟩ = some (.slice f.p f.txt.length f.cap) := b1
          have r1' : (W1.drewN nq).cell? ⟨go, o'.length * 2 + 1, none⟩ = some (.slice x.p x.txt.length x.cap) := r1
          have HOJ2 : Hid (OwnJ w2.heap.size (W1.drewN nq).drew (.slice (some ⟨go, 0, none⟩) (o'.length + 1) cp) (o' ++ [x])) := HOJ1.out
          have HFI2 : Hid (f.at (W1.drewN nq)) := HFI1.out
          have HB3 : Hid (Below w2.heap.size w2 (W1.drewN nq).drew) := (bel_drewN HB1.out nq).drew
          clear b0 b1 r0 r1
          generalize W1.drewN nq = W2 at b1' r1' HOJ2 HFI2 HB3 ⊢
          have fz : W2.frozen? ⟨go, o'.length * 2 + 1, none⟩ = false := by
            have h1 := HOJ2.out.1.1
            rw [hol] at h1
            exact h1.frozenAt _
          by_cases hf0 : f.txt = []
          · have hf0l : f.txt.length = 0 := by rw [hf0]; rfl
            have HSH := hid (sl_shape (HOJ2.out.1.2 x (by simp)))
            have HOK := hid (joined_kept HOJ2.out)
            rw [hf0l] at b1' ⊢
            go_region_law (first
              | (refine step_txt0 _ (by rfl) (.tmp 39) (.tmp 41) (by rfl) x.p x.txt.length x.cap f.p f.cap (by rfl) HSH.out.1 (by rfl) HSH.out.2 ?_))
            all_goals
              go_wp2_with fail
              go_roundg (ds.length - (i + 1))
              case measure => omega
              refine ⟨i + 1, by go_num, by omega, by omega, o' ++ [x], HOK.out, ?_, HB3.out.setCell (p := ⟨go, o'.length * 2 + 1, none⟩) hNgo _⟩
              rw [HNX.out, HJS.out, hf0, List.append_nil, List.map_append]
              rfl
          · obtain ⟨b, off, hfp, hcl⟩ : ∃ b off, f.p = some ⟨b, off, none⟩ ∧ ∀ i, (h : i < f.txt.length) → W2.cell? ⟨b, off + i, none⟩ = some (.string f.txt[i]) := by
              rcases HFI2.out with h | h
              · exact absurd h hf0
              · exact h
            have hpos : 0 < f.txt.length := List.length_pos_iff.2 hf0
            rw [hfp] at b1' ⊢
            have HOT : Hid (OwnT w2.heap.size W2.drew x.sl x.txt) := HOJ2.out.1.2 x (by simp)
            have HCL : Hid (∀ j u, (f.txt.map Value.string)[j]? = some u → W2.drew.cell? ((⟨b, off, none⟩ : Addr).add j) = some u) := fun j u hj => by
              rw [addr_add]
              have hjl : j < f.txt.length := by have := (List.getElem?_eq_some_iff.1 hj).1; simpa using this
              rw [List.getElem?_map, List.getElem?_eq_getElem hjl] at hj
              rw [← Option.some.inj hj]
              exact hcl j hjl
            have HNB : Hid (w2.heap.size ≤ W2.drew.heap.size) := HB3.out.size
            clear hcl
            go_region_law (first
              | (refine step_append_lies _ (by rfl) (.tmp 39) (.tmp 41) 28 (by rfl) w2.heap.size 9 i0 (.string ⟨#[]⟩) 1 16 Tryd.underlying28 HI.out hz0 hz1 hz2 rfl (by decide) x.sl x.txt.length (x.txt.map Value.string) (by rfl) HOT.out ⟨b, off, none⟩ f.txt.length f.cap (f.txt.map Value.string) (by rfl) (by simp) HCL.out (by intro u hu; obtain ⟨t, _, rfl⟩ := List.mem_map.1 hu; rfl) hpos (by unfold maxLen; omega) hxb HNB.out _ rfl ?_; intro g4 cap4 w4 hown4 hg4 hat4 hlt4; obtain ⟨k1, k2, hoj4⟩ := joined_grown HOJ2.out hown4 hg4 hat4))
            all_goals
              have HOJ4 := hid hoj4
              have HB4 : Hid (Below w2.heap.size w2 w4) := HB3.out.grown hg4 HNB.out (fun k hk => (World.ownsRow.lt HOT.out k hk).1)
              clear hoj4 hown4 hg4 hat4
              go_wp2_with fail
              go_roundg (ds.length - (i + 1))
              case measure => omega
              refine ⟨i + 1, by go_num, by omega, by omega, _, HOJ4.out, ?_, HB4.out.setCell (p := ⟨go, o'.length * 2 + 1, none⟩) hNgo _⟩
              rw [HNX.out, HJS.out, List.map_append]
              rfl
        | false =>
          have hnm : x.name ≠ f.name := by rw [toList_eq, decide_eq_false_iff_not] at hq; exact hq
          have HJS : Hid (joinStep ((o' ++ [x]).map Fx.fld) f.fld = ((o' ++ [x]).map Fx.fld) ++ [f.fld]) := by
            show _ = _
            rw [List.map_append]
            exact joinStep_other _ _ _ hnm
          clear hnm
          go_quiet (fail)
          go_wp2_with fail
          have b0' : (W1.drewN nq).cell? ⟨wr.heap.size, 0, none⟩ = some (.string f.name) := b0
          have b1' : (W1.drewN nq).cell? ⟨wr.heap.size, 1, none⟩ = some (.slice f.p f.txt.length f.cap) := b1
          have HOJ2 : Hid (OwnJ w2.heap.size (W1.drewN nq).drew (.slice (some ⟨go, 0, none⟩) (o'.length + 1) cp) (o' ++ [x])) := HOJ1.out
          have HFI2 : Hid (f.at (W1.drewN nq)) := HFI1.out
          have HB3 : Hid (Below w2.heap.size w2 (W1.drewN nq).drew) := (bel_drewN HB1.out nq).drew
          clear b0 b1 r0 r1
          generalize W1.drewN nq = W2 at b0' b1' HOJ2 HFI2 HB3 ⊢
          have F0 : Hid (∀ w' : World, Below W2.drew.heap.size W2.drew w' → w'.cell? ⟨wr.heap.size, 0, none⟩ = some (.string f.name) ∧ w'.cell? ⟨wr.heap.size, 1, none⟩ = some (.slice f.p f.txt.length f.cap)) := fun w' hb => ⟨(hb.cell (p := ⟨wr.heap.size, 0, none⟩) (cell_block (w := W2.drew) b0')).trans b0', (hb.cell (p := ⟨wr.heap.size, 1, none⟩) (cell_block (w := W2.drew) b1')).trans b1'⟩
          have HCT := hid (cloneT_any f.p f.cap f.txt W2.drew HFI2.out (by have := HBND.out; omega))
          have hFl : wr.heap.size < W2.heap.size := cell_block b0'
          have FA : Hid (∀ w3 w4 : World, (w3.cell? ⟨wr.heap.size, 0, none⟩ = some (.string f.name) ∧ w3.cell? ⟨wr.heap.size, 1, none⟩ = some (.slice f.p f.txt.length f.cap)) → w3.grownBy w4 (Value.slice (some ⟨go, 0, none⟩) (o'.length + 1) cp).ownBlock → w4.cell? ⟨wr.heap.size, 0, none⟩ = some (.string f.name) ∧ w4.cell? ⟨wr.heap.size, 1, none⟩ = some (.slice f.p f.txt.length f.cap)) := fun w3 w4 h hg =>
            ⟨(hg.cell_far ⟨wr.heap.size, 0, none⟩ (cell_block h.1) (fun e => by have : wr.heap.size = go := (by simpa [Value.ownBlock] using e); omega)).trans h.1, (hg.cell_far ⟨wr.heap.size, 1, none⟩ (cell_block h.2) (fun e => by have : wr.heap.size = go := (by simpa [Value.ownBlock] using e); omega)).trans h.2⟩
          go_region_held3 (fun w' => w'.cell? ⟨wr.heap.size, 0, none⟩ = some (.string f.name) ∧ w'.cell? ⟨wr.heap.size, 1, none⟩ = some (.slice f.p f.txt.length f.cap))
            (first | exact ⟨b0', b1'⟩ | exact q5 | exact q6 | exact q7)
            (first
              | (go_at_call 29; refine HCT.out.mono ?_; rintro e w5 ⟨sv, rfl, hot5, hb5⟩; obtain ⟨pc, capc, rfl⟩ := own_slice hot5; have q5 := F0.out w5 hb5; have hb6 : Below W2.drew.heap.size W2.drew (w5.alloc (.cells #[.string f.name, .slice pc f.txt.length capc] 30)) := Below.alloc hb5 hb5.size _; have q6 := F0.out _ hb6; have hoj6 : OwnJ w2.heap.size (w5.alloc (.cells #[.string f.name, .slice pc f.txt.length capc] 30)) (Value.slice (some ⟨go, 0, none⟩) (o'.length + 1) cp) (o' ++ [x]) := OwnJ.on (w := W2.drew) HOJ2.out hb6; have hnew6 : NewX (w5.alloc (.cells #[.string f.name, .slice pc f.txt.length capc] 30)) w5.heap.size ⟨f.name, pc, capc, f.txt⟩ := heap_alloc_new w5 _; have hbase6 : w2.heap.size ≤ (w5.alloc (.cells #[.string f.name, .slice pc f.txt.length capc] 30)).heap.size := Nat.le_trans HB3.out.size hb6.size)
              | (refine step_putX _ (by rfl) (.tmp 45) (.tmp 52) (by rfl) w2.heap.size (Value.slice (some ⟨go, 0, none⟩) (o'.length + 1) cp) (o' ++ [x]) (o'.length + 1) (by rfl) (by assumption) (by simp) _ _ (by rfl) (by assumption) (by have := HL2.out; omega) (by assumption) ?_; intro g7 cap7 w7 hown7 hg7; have q7 := FA.out _ _ (by assumption) hg7))
          have hoj7 := joined_put (x := ⟨f.name, pc, capc, f.txt⟩) (M := W2.drew.heap.size) hoj6 (OwnT.on hot5 ((Below.refl _ _).alloc (Nat.le_refl _) _)) (fun y hy k hk => (World.ownsRow.lt (HOJ2.out.1.2 y hy) k hk).2) HB3.out.size (by rw [hol]; exact hown7) hg7
          have HB7 : Hid (Below w2.heap.size w2 w7) := (HB3.out.trans (hb6.mono HB3.out.size)).grown hg7 hbase6 (fun k hk => (World.ownsRow.lt hoj6.1.1 k hk).1)
          have HOJ7 := hid hoj7
          clear hoj7 hown7 hg7 hoj6 hnew6 hot5 hb5 hb6 q5 q6 q7
          go_wp2_with fail
          go_roundg (ds.length - (i + 1))
          case measure => omega
          refine ⟨i + 1, by go_num, by omega, by omega, _, HOJ7.out, ?_, HB7.out⟩
          rw [HNX.out, HJS.out, List.map_append]
          rfl
    · have hltz : ¬ (i : Int) < (ds.length : Int) := by omega
      obtain rfl : i = ds.length := by omega
      have HP : Hid (OwnJ w2.heap.size wr u4 o ∧ o.map Fx.fld = joinS (ds.map Fx.fld) ∧ Below w2.heap.size w2 wr) := by
        rw [List.take_of_length_le (by simp)] at hmap
        exact ⟨hoj, hmap, hb⟩
      clear hoj hmap hb
      go_wp2_with fail
      go_ret
      obtain ⟨h1, h2, h3⟩ := HP.out
      have hsz := HB2.out.size
      exact ⟨_, ds, o, rfl, HSO.out, ⟨⟨own_weak h1.1.1 hsz, fun x hx => own_weak (h1.1.2 x hx) hsz⟩, h1.2⟩, h2, HB2.out.trans (h3.mono hsz)⟩

end Go.Proofs.YtmjchokacmbkoabDoor
