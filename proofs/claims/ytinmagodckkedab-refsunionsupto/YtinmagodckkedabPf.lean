/-
  Texts of this claim, one behind the other: Rsa Rkp Run.
-/
import Derived.Test.YtinmagodckkedabPe
import Derived.Test.YtinmagodckkedabPd
import Derived.Deep.CutRange
import Derived.Deep.AppendLies
import Derived.BigQuiet
import Derived.Test.YtinmagodckkedabPa
import Derived.Test.YtinmagodckkedabPc
/-
  An append at a step of a region that draws its order.
-/
namespace Go.Proofs.Ytinmagodckkedab
open Go.RowKit Go.Lib

/-- An append of a row that came in, whatever its length, at a step of a region that draws its order. -/
theorem step_append_ky {ops : Array Oper} {o : Oper} {a : Act} {K : Act → World → Prop} {Q : Exit → Act → World → Prop} {E : Prop} (w : World) (hgd : o.guard = none) (s x : Operand) (t : TypeId)
    (ho : o.op = .call { callee := .builtin .append, args := #[s, x], argTypes := #[t, t] })
    (base : Nat) (e : TypeId) (i : TypeInfo) (z : Value) (size bytes : Nat) (ht : Try.prog.underlying t = some (.slice e)) (hi : Try.prog.info? e = some i) (hz : i.zero = some z)
    (hsize : i.size = size) (hby : i.bytes = bytes) (hzs : z.cells.size = size) (hsz : 0 < size)
    (v : Value) (n : Nat) (xs : List Value) (hs : a.eval s = v) (hown : w.ownsRow base e size v n xs)
    (p : Option Addr) (m c : Nat) (news : List Value) (hx : a.eval x = .slice p m c) (hl : news.length = m * size)
    (hsrc : m = 0 ∨ ∃ ad, p = some ad ∧ ∀ j u, news[j]? = some u → w.cell? (ad.add j) = some u) (h1 : ∀ u ∈ news, u.oneCell' = true)
    (h63 : n + m ≤ maxLen) (hbytes : (n + m) * bytes ≤ 140737488355328) (hbase : base ≤ w.heap.size)
    (h : ∀ v' w', w'.ownsRow base e size v' (n + m) (xs ++ news) → w.grownBy w' v.ownBlock → K (a.put o.dst v') w') :
    if Region.wanted o (yielded ops a.tmps) = true then Oper.wp Try.prog o a w K Q else E := by
  by_cases hm : m = 0
  · have hw : Region.wanted o (yielded ops a.tmps) = true := by simp [Region.wanted, hgd]
    rw [if_pos hw]
    subst hm
    have hn : news = [] := List.length_eq_zero_iff.1 (by simpa using hl)
    subst hn
    obtain ⟨q, cap, hv, hcap, hq⟩ : ∃ q cap, v = .slice q n cap ∧ n ≤ cap ∧ (q = none → n = 0 ∧ cap = 0) := by
      rcases hown.2 with ⟨hv, h0⟩ | ⟨g, cap, cur, hv, _, _, hc, _⟩
      · exact ⟨none, 0, by rw [hv, h0], by omega, fun _ => ⟨h0, rfl⟩⟩
      · exact ⟨_, cap, hv, hc, fun h => by cases h⟩
    have hrun : (Builtin.append_ #[t, t] o.type #[.slice q n cap, .slice p 0 c]).run Try.prog w = .ok (.slice q n cap) w := by
      cases q with
      | none =>
        obtain ⟨rfl, rfl⟩ := hq rfl
        cases p <;> simp [Builtin.append_, run_underlying ht, Builtin.lenOf, Builtin.firstCells, sizeOf, typeInfo, hi, loadCells, loadCellsFrom]
      | some q =>
        cases p <;> simp [Builtin.append_, run_underlying ht, Builtin.lenOf, Builtin.firstCells, sizeOf, typeInfo, hi, storeCells, loadCells, loadCellsFrom, hcap]
    rw [hv] at hs
    unfold Oper.wp
    simp [execOp, ho, resolve, invoke, builtin, hs, hx, hrun, Result.andThen]
    refine h _ _ ?_ (grownBy_refl _ _)
    rw [← hv, List.append_nil]
    exact hown
  · rcases hsrc with h0 | ⟨ad, rfl, hc⟩
    · exact absurd h0 hm
    · exact step_append_lies w hgd s x t ho base e i z size bytes ht hi hz hsize hby hzs hsz v n xs hs hown ad m c news hx hl hc h1 (by omega) h63 hbytes hbase _ rfl (fun g cap w' h2 h3 _ _ => h _ w' h2 h3)

end Go.Proofs.Ytinmagodckkedab

/-
  Put of the reference, on keys of one's own.
-/
namespace Go.Proofs.Ytinmagodckkedab
open Go.RowKit

theorem insR_len {α : Type} [DecidableEq α] (lt : α → α → Bool) (x : α) : ∀ l : List α, (insR lt x l).length ≤ l.length + 1
  | [] => by simp [insR]
  | y :: r => by
    unfold insR
    split
    · simp
    · split
      · simp
      · have := insR_len lt x r
        simp only [List.length_cons]
        omega

theorem told_snoc {α : Type} [DecidableEq α] (lt : α → α → Bool) (g : ByteArray → Option α) (ts : List ByteArray) (t : ByteArray) :
    toldBy lt g (ts ++ [t]) = match g t with | some x => insR lt x (toldBy lt g ts) | none => toldBy lt g ts := by
  unfold toldBy
  rw [List.foldl_append]
  rfl

theorem told_len {α : Type} [DecidableEq α] (lt : α → α → Bool) (g : ByteArray → Option α) (ts : List ByteArray) : (toldBy lt g ts).length ≤ ts.length := by
  have : ∀ (l : List ByteArray) (acc : List α), (l.foldl (fun acc t => match g t with | some x => insR lt x acc | none => acc) acc).length ≤ acc.length + l.length := by
    intro l
    induction l with
    | nil => intro acc; simp
    | cons t l ih =>
      intro acc
      rw [List.foldl_cons, List.length_cons]
      cases g t with
      | none => have := ih acc; simp only; omega
      | some x => have := ih (insR lt x acc); have := insR_len lt x acc; simp only; omega
  have h := this ts []
  rw [List.length_nil, Nat.zero_add] at h
  exact h

theorem kput_any (n0 : Nat) (v : Value) (l : List Ky) (x : Ky) (w : World) (h : KK.Own n0 w v l) (h0 : n0 ≤ w.heap.size) (hr : RisingR ltKy l) (hl : l.length ≤ 2000000) :
    Calls Try.prog 8 #[v, .agg #[.string x.1, .string x.2]] w fun e w' => ∃ u, e = .returned u ∧ KK.Own n0 w' u (insR ltKy x l) ∧ Below n0 w w' := by
  have key : ∀ e w', Z.PutPost n0 l (x.1, x.2) w e w' → ∃ u, e = .returned u ∧ KK.Own n0 w' u (insR ltKy x l) ∧ Below n0 w w' := by
    rintro e w' ⟨u, r, rfl, hri, hmem, _, hown, hb⟩
    refine ⟨u, rfl, ?_, hb⟩
    have : r = insR ltKy x l := rising_uniqR totK (z_rises hri) (rising_insR totK x hr) fun z => by rw [hmem z, mem_insR]
    rw [← this]
    exact hown
  rcases h.2 with ⟨hv, hz⟩ | ⟨g, cap, cur, hv, _⟩
  · obtain rfl := List.length_eq_zero_iff.1 hz
    subst hv
    exact (Z.zput_nil n0 x.1 x.2 w h0).mono key
  · subst hv
    exact (Z.zput_own g cap n0 l x.1 x.2 w h h0 (z_rises' hr) (by omega)).mono key

end Go.Proofs.Ytinmagodckkedab

/-
  The walk of RefsUnions.
-/
namespace Go.Proofs.Ytinmagodckkedab
open Go.RowKit Go.Lib

theorem len_of_sub {α : Type} [DecidableEq α] : ∀ (l m : List α), l.Nodup → (∀ x ∈ l, x ∈ m) → l.length ≤ m.length
  | [], _, _, _ => Nat.zero_le _
  | a :: l, m, hn, hs => by
    obtain ⟨h1, h2⟩ := List.nodup_cons.1 hn
    have ha := hs a (by simp)
    have := len_of_sub l (m.erase a) h2 fun x hx => (List.mem_erase_of_ne (by rintro rfl; exact h1 hx)).2 (hs x (by simp [hx]))
    have e := List.length_erase_of_mem ha
    have hp := List.length_pos_of_mem ha
    simp only [List.length_cons]
    omega

def oneB (bs : List Bd) (n : ByteArray) (ks : List Ky) : List Ky := bs.foldl (fun acc b => if b.1 = n then insR ltKy b.2 acc else acc) ks
theorem oneB_snoc (bs : List Bd) (x : Bd) (n : ByteArray) (ks : List Ky) : oneB (bs ++ [x]) n ks = if x.1 = n then insR ltKy x.2 (oneB bs n ks) else oneB bs n ks := by
  unfold oneB
  rw [List.foldl_append]
  rfl
theorem unionB_snoc (bs : List Bd) (ns : List ByteArray) (n : ByteArray) (ks : List Ky) : unionB bs (ns ++ [n]) ks = oneB bs n (unionB bs ns ks) := by
  unfold unionB oneB
  rw [List.foldl_append]
  rfl

theorem rising_nodup {l : List Ky} (h : RisingR ltKy l) : l.Nodup := h.imp fun {a b} hab e => by
  subst e
  rw [totK.irr] at hab
  cases hab

/-- What has been gathered rises, and is no more than the keys and the binds. -/
theorem gather (bs : List Bd) (ns : List ByteArray) (n : ByteArray) (ks : List Ky) (j : Nat) (hk : RisingR ltKy ks) : RisingR ltKy (oneB (bs.take j) n (unionB bs ns ks)) ∧ (oneB (bs.take j) n (unionB bs ns ks)).length ≤ ks.length + bs.length := by
  obtain ⟨h1, h2⟩ := union_all bs ns ks hk
  obtain ⟨h3, h4⟩ := union_one (bs.take j) n (unionB bs ns ks) h1
  refine ⟨h3, ?_⟩
  have := len_of_sub (oneB (bs.take j) n (unionB bs ns ks)) (ks ++ bs.map (·.2)) (rising_nodup h3) fun z hz => by
    rcases (h4 z).1 hz with h | h
    · rcases (h2 z).1 h with h | ⟨m, _, h⟩
      · exact List.mem_append.2 (Or.inl h)
      · exact List.mem_append.2 (Or.inr (List.mem_map.2 ⟨_, h, rfl⟩))
    · exact List.mem_append.2 (Or.inr (List.mem_map.2 ⟨_, List.mem_of_mem_take h, rfl⟩))
  simpa using this

theorem z_is_ky {w : World} {v : Value} {d : List Ky} (h : KK.Is w v d) : Z.IsKeys w v d := by
  obtain ⟨p, cap, rfl, h | ⟨b, off, rfl, h⟩⟩ := h
  · exact ⟨p, cap, rfl, Or.inl h⟩
  · exact ⟨_, cap, rfl, Or.inr ⟨b, off, rfl, z_at h⟩⟩

theorem kput_at (n0 : Nat) (v : Value) (l : List Ky) (x : Ky) (w : World) (h : KK.Own n0 w v l) (h0 : n0 ≤ w.heap.size) (hr : RisingR ltKy l) (hl : l.length ≤ 4000000) :
    Calls Try.prog 8 #[v, .agg #[.string x.1, .string x.2]] w fun e w' => ∃ u, e = .returned u ∧ KK.Own n0 w' u (insR ltKy x l) ∧ Below n0 w w' := by
  have key : ∀ e w', Z.PutPost n0 l (x.1, x.2) w e w' → ∃ u, e = .returned u ∧ KK.Own n0 w' u (insR ltKy x l) ∧ Below n0 w w' := by
    rintro e w' ⟨u, r, rfl, hri, hmem, _, hown, hb⟩
    refine ⟨u, rfl, ?_, hb⟩
    have : r = insR ltKy x l := rising_uniqR totK (z_rises hri) (rising_insR totK x hr) fun z => by rw [hmem z, mem_insR]
    rw [← this]
    exact hown
  rcases h.2 with ⟨hv, hz⟩ | ⟨g, cap, cur, hv, _⟩
  · obtain rfl := List.length_eq_zero_iff.1 hz
    subst hv
    exact (Z.zput_nil n0 x.1 x.2 w h0).mono key
  · subst hv
    exact (Z.zput_own g cap n0 l x.1 x.2 w h h0 (z_rises' hr) (by omega)).mono key

set_option maxHeartbeats 8000000 in
set_option maxRecDepth 100000 in
theorem unions_any (v vb : Value) (d : List Fx) (bs : List Bd) (w : World) (hv : IsXs w v d) (hvb : KB.Is w vb bs) (hf : FitX d) (hc : CopyX d) (hT : (txtsX d).length ≤ 2000000) (hfb : FitBd bs) :
    Calls Try.prog 3 #[v, vb] w fun e w' => e = .returned (.bool true) ∧ Below w.heap.size w w' := by
  have H1 : Hid (∀ W, Below w.heap.size w W → Calls Try.prog 5 #[v, vb] W fun e w' => AnsJ W (resAns bs (d.map Fx.fld)) (rsCode bs (d.map Fx.fld)) e w') := fun W hW => resolve_any v vb d bs W (hv.kept hW) (Kind.is_kept hvb hW) hf hc hT hfb
  have HFT : Hid (∀ o : List Fx, o.map Fx.fld = resAns bs (d.map Fx.fld) → FitX o) := fun o ho => fit_res hf ho
  by_cases hC0 : rsCode bs (d.map Fx.fld) = 0
  · obtain ⟨hk, hnd, hall, hans⟩ := res_ok (by decide) (by decide) (by decide) hC0
    have HUN := hid (res_unionB hk hnd hall)
    rw [hC0, hans] at H1
    rw [hans] at HFT
    have H2 : Hid (∀ W, Below w.heap.size w W → Calls Try.prog 6 #[v] W fun e w' => ∃ u, e = .returned u ∧ KK.Own W.heap.size w' u (keysF (d.map Fx.fld)) ∧ Below W.heap.size W w') := fun W hW => keys_any v d W (hv.kept hW) hf hT
    have H3 : Hid (∀ W, Below w.heap.size w W → Calls Try.prog 7 #[v] W fun e w' => ∃ u, e = .returned u ∧ OwnT W.heap.size w' u (tempsF (d.map Fx.fld)) ∧ Below W.heap.size W w') := fun W hW => temps_any v d W (hv.kept hW) hf hT
    have HKR := hid (told_rising totK namedT (textsF (d.map Fx.fld)))
    have hKl : (keysF (d.map Fx.fld)).length ≤ 2000000 := by
      unfold keysF
      refine Nat.le_trans (told_len _ _ _) ?_
      rw [txtsX_flds]; exact hT
    have hTl : (tempsF (d.map Fx.fld)).length ≤ 2000000 := by
      unfold tempsF
      refine Nat.le_trans (told_len _ _ _) ?_
      rw [txtsX_flds]; exact hT
    have HTXT : Hid (∀ o : List Fx, o.map Fx.fld = mapT (resT bs) (d.map Fx.fld) → (txtsX o).length ≤ 2000000) := fun o ho => by
      have : txtsX o = (txtsX d).map (resT bs) := by
        rw [← txtsX_flds, ho, ← txtsX_flds]
        unfold textsF mapT
        simp [List.flatMap_map, List.map_flatMap]
      rw [this, List.length_map]
      exact hT
    have hbl := hfb.1
    change Hid (RisingR ltKy (keysF (d.map Fx.fld))) at HKR
    obtain ⟨K, hK⟩ : ∃ K, keysF (d.map Fx.fld) = K := ⟨_, rfl⟩
    obtain ⟨T, hTT⟩ : ∃ T, tempsF (d.map Fx.fld) = T := ⟨_, rfl⟩
    obtain ⟨F, hF⟩ : ∃ F, mapT (resT bs) (d.map Fx.fld) = F := ⟨_, rfl⟩
    rw [hK] at H2 hKl HKR HUN
    rw [hTT] at H3 hTl HUN
    rw [hF] at HUN H1 HFT HTXT
    obtain ⟨pb, cb, rfl, hdb⟩ := hvb
    have HDB := hid hdb
    obtain ⟨i0, hi0, hz0, hz1, hz2⟩ := info_parts Try.infoKy
    have HI := hid hi0
    clear hv hf hc hT hfb hC0 hk hnd hall hans hK hTT hF hdb hi0
    go_enter Try.func3, Try.ntmps3
    go_wp2_with fail
    refine (rfixed_any _).mono ?_
    rintro e w1 ⟨rfl, hq1⟩
    have HB1 := hid hq1
    clear hq1
    go_wp2_with fail
    refine (H1.out w1 HB1.out).mono ?_
    rintro e w2 ⟨u2, o2, rfl, ho2, hm2, hq2⟩
    have HB2 := hid (bel_then HB1.out HB1.out.size hq2)
    have HI2 := hid ho2.1.is
    have HF2 := hid (HFT.out o2 hm2)
    have HT2 := hid (HTXT.out o2 hm2)
    have HM2 := hid hm2
    clear ho2 hm2 hq2 H1 HFT HTXT HB1
    go_wp2_with fail
    refine (H2.out w2 HB2.out).mono ?_
    rintro e w3 ⟨u3, rfl, ho3, hq3⟩
    have HB3 := hid hq3
    have HO3 := hid (Kind.own_is ho3)
    clear ho3 hq3 H2
    go_wp2_with fail
    refine (H3.out w3 (bel_then HB2.out HB2.out.size HB3.out)).mono ?_
    rintro e w4 ⟨u4, rfl, ho4, hq4⟩
    have HB4 := hid (bel_then HB3.out HB3.out.size hq4)
    have HO4 := hid (Kind.is_kept HO3.out hq4)
    obtain ⟨p4, c4, rfl, hd4⟩ := Kind.own_is (kt_own.2 ho4)
    have HT4 := hid (kt_txt.2 hd4)
    have HN := hid (HI2.out.kept HB4.out)
    have HW := hid (bel_then HB2.out HB2.out.size HB4.out)
    clear ho4 hq4 hd4 H3 HO3 HB3 HB4 HI2
    go_wp2_with fail
    go_loopg [7, 29] T.length (fun g vs vi wr => ∃ i : Nat, vi = .int .i64 i ∧ i ≤ T.length ∧ T.length - i ≤ g ∧ Hid (Below w4.heap.size w4 wr) ∧ Hid (KK.Is wr vs (unionB bs (T.take i) K)))
    case atStart => exact ⟨0, rfl, by omega, by omega, Below.refl _ _, HO4.out⟩
    case round =>
      clear HO4
      obtain ⟨i, rfl, hi, hgk, HB, HO⟩ := hrel
      by_cases hlt : i < T.length
      · have hltz : (i : Int) < (T.length : Int) := by omega
        have hiz : (0 : Int) ≤ i := by omega
        obtain ⟨b4, off4, rfl, ht4⟩ : ∃ b o, p4 = some ⟨b, o, none⟩ ∧ ∀ i, (h : i < T.length) → w4.cell? ⟨b, o + i, none⟩ = some (.string T[i]) := by
          rcases HT4.out with h | h
          · rw [h] at hlt; simp at hlt
          · exact h
        have t0 : wr.cell? ⟨b4, off4 + i, none⟩ = some (.string T[i]) := (HB.out.cell (p := ⟨b4, off4 + i, none⟩) (cell_block (ht4 i hlt))).trans (ht4 i hlt)
        have htk : unionB bs (T.take (i + 1)) K = oneB bs T[i] (unionB bs (T.take i) K) := by rw [List.take_succ_eq_append_getElem hlt, unionB_snoc]
        obtain ⟨n, hn⟩ : ∃ n, T[i] = n := ⟨_, rfl⟩
        rw [hn] at t0 htk
        have HG := hid (fun j => gather bs (T.take i) n K j HKR.out)
        obtain ⟨X, hX⟩ : ∃ X, unionB bs (T.take i) K = X := ⟨_, rfl⟩
        rw [hX] at HO htk HG
        have HTK := hid htk
        clear ht4 htk hn hX
        go_wp2_with fail
        clear t0
        go_loopg [7, 35] bs.length (fun g vs vj wr2 => ∃ j : Nat, vj = .int .i64 j ∧ j ≤ bs.length ∧ bs.length - j ≤ g ∧ Hid (Below w4.heap.size w4 wr2) ∧ Hid (KK.Is wr2 vs (oneB (bs.take j) n X)))
        case atStart => exact ⟨0, rfl, by omega, by omega, HB.out, HO.out⟩
        case round =>
          clear HB HO
          obtain ⟨j, rfl, hj, hgj, HB, HO⟩ := hrel
          by_cases hlj : j < bs.length
          · have hljz : (j : Int) < (bs.length : Int) := by omega
            have hjz : (0 : Int) ≤ j := by omega
            obtain ⟨b5, off5, rfl, hat⟩ : ∃ b off, pb = some ⟨b, off, none⟩ ∧ KB.At w b off bs := by
              rcases HDB.out with h | h
              · subst h; simp at hlj
              · exact h
            obtain ⟨c0, c1, c2⟩ := kb_at (Kind.at_kept hat (bel_then HW.out HW.out.size HB.out)) j hlj
            have hsn : oneB (bs.take (j + 1)) n X = if (bs[j]).1 = n then insR ltKy (bs[j]).2 (oneB (bs.take j) n X) else oneB (bs.take j) n X := by rw [List.take_succ_eq_append_getElem hlj, oneB_snoc]
            obtain ⟨x, hx⟩ : ∃ x, bs[j] = x := ⟨_, rfl⟩
            rw [hx] at c0 c1 c2 hsn
            obtain ⟨bn, k1, k2⟩ := x
            simp only at c0 c1 c2 hsn
            obtain ⟨hri, hle⟩ := HG.out j
            obtain ⟨Y, hY⟩ : ∃ Y, oneB (bs.take j) n X = Y := ⟨_, rfl⟩
            rw [hY] at HO hsn hri hle
            have HSN := hid hsn
            have HRI := hid hri
            have hYl : Y.length ≤ 4000000 := by omega
            obtain ⟨S, hS⟩ : ∃ S, wr.heap.size = S := ⟨_, rfl⟩
            obtain ⟨Wb, hWb⟩ : ∃ Wb, wr.alloc (.cells #[.string bn, .string k1, .string k2] 35) = Wb := ⟨_, rfl⟩
            have HBB : Hid (Below w4.heap.size w4 Wb) := by show Below _ _ _; rw [← hWb]; exact HB.out.alloc HB.out.size _
            obtain ⟨p7, c7, rfl, hd7⟩ := HO.out
            have HOB : Hid (KK.Is Wb (.slice p7 Y.length c7) Y) := by
              rw [← hWb]
              exact Kind.is_kept HO.out ((Below.refl _ _).alloc (Nat.le_refl _) _)
            have x0 : Wb.cell? ⟨S, 0, none⟩ = some (.string bn) := by rw [← hWb, ← hS]; simp [go_sem]
            have x1 : Wb.cell? ⟨S, 1, none⟩ = some (.string k1) := by rw [← hWb, ← hS]; simp [go_sem]
            have x2 : Wb.cell? ⟨S, 2, none⟩ = some (.string k2) := by rw [← hWb, ← hS]; simp [go_sem]
            have hSW : S < Wb.heap.size := by rw [← hWb, ← hS]; simp
            clear hat hx hsn hri hle hY HO hd7
            by_cases hbn : bn = n
            · subst hbn
              go_upto_region 14 with fail
              try rw [hWb]
              try rw [hS]
              clear c0 c1 c2 hWb hS x0
              have s0 : Wb.drew.cell? ⟨S, 1, none⟩ = some (.string k1) ∧ Wb.drew.cell? ⟨S, 2, none⟩ = some (.string k2) := ⟨x1, x2⟩
              have s1 : (Wb.drew.alloc (.cells #[] 33)).cell? ⟨S, 1, none⟩ = some (.string k1) ∧ (Wb.drew.alloc (.cells #[] 33)).cell? ⟨S, 2, none⟩ = some (.string k2) := ⟨kept_new _ s0.1, kept_new _ s0.2⟩
              have HX : Hid (∀ W, Below Wb.heap.size Wb W → W.cell? ⟨S, 1, none⟩ = some (.string k1) ∧ W.cell? ⟨S, 2, none⟩ = some (.string k2)) := fun W hW => ⟨(hW.cell (p := ⟨S, 1, none⟩) hSW).trans s0.1, (hW.cell (p := ⟨S, 2, none⟩) hSW).trans s0.2⟩
              have HBA : Hid (Below Wb.heap.size Wb (Wb.drew.alloc (.cells #[] 33))) := ((Below.refl _ Wb).drew).alloc (Nat.le_refl _) _
              have HN0 : Hid (KK.Own Wb.heap.size (Wb.drew.alloc (.cells #[] 33)) (.slice (some ⟨Wb.heap.size, 0, none⟩) 0 0) []) := World.ownsRow_lit Wb.drew #[] 0 (Nat.le_refl _) (by decide) rfl
              have KS : Hid (Y.length = 0 ∨ ∃ ad, p7 = some ad ∧ ∀ j u, (KK.cells Y)[j]? = some u → (Wb.drew.alloc (.cells #[] 33)).cell? (ad.add j) = some u) := by
                obtain ⟨q, c, he, h⟩ := Kind.is_kept HOB.out HBA.out
                injection he with e1 _ _
                subst e1
                exact Kind.src h
              unfold Kind.Own at HN0
              go_region_held3 (fun w' => w'.cell? ⟨S, 1, none⟩ = some (.string k1) ∧ w'.cell? ⟨S, 2, none⟩ = some (.string k2)) (first | exact s0 | exact s1 | exact s5 | exact s6)
                (first
                  | (refine step_append_ky _ (by rfl) (.tmp 43) (.tmp 44) 28 (by rfl) Wb.heap.size 33 i0 (.agg #[.string ⟨#[]⟩, .string ⟨#[]⟩]) 2 32 Try.underlying28 HI.out hz0 hz1 hz2 rfl (by decide) _ _ _ (by rfl) HN0.out _ Y.length _ (KK.cells Y) (by rfl) (by rw [KK.cells_len]; rfl) KS.out (KK.cells_ones _) (by unfold maxLen; simp; omega) (by simp; omega) HBA.out.size ?_; intro v5 w5 hown5 hg5; have hb5 : Below Wb.heap.size Wb w5 := HBA.out.grown hg5 HBA.out.size (fun k hk => (World.ownsRow.lt HN0.out k hk).1); have s5 := HX.out w5 hb5; have hsz5 := hb5.size; have HB5 := hid hb5; rw [List.length_nil, Nat.zero_add] at hown5; have HO5 : Hid (KK.Own Wb.heap.size w5 v5 Y) := hown5; clear hown5 hg5 hb5)
                  | (go_at_call 8; refine (kput_at Wb.heap.size v5 Y (k1, k2) w5 HO5.out hsz5 HRI.out hYl).mono ?_; rintro e w6 ⟨u6, rfl, ho6, hq6⟩; have HB6 := hid (HB5.out.trans hq6); have s6 := HX.out w6 HB6.out; have HO6 := hid (Kind.own_is ho6); clear ho6 hq6))
              all_goals
                go_wp2_with fail
                go_roundg (bs.length - (j + 1))
                case measure => omega
                refine ⟨j + 1, by go_num, by omega, by omega, bel_then HBB.out HBB.out.size HB6.out, ?_⟩
                rw [HSN.out, if_pos (by trivial)]
                exact HO6.out
            · have hne := str_ne hbn
              have HNE := hid hbn
              clear hbn
              go_wp2_with fail
              try rw [hWb]
              go_roundg (bs.length - (j + 1))
              case measure => omega
              refine ⟨j + 1, by go_num, by omega, by omega, HBB.out, ?_⟩
              rw [HSN.out, if_neg HNE.out]
              exact HOB.out
          · have hljz : ¬ (j : Int) < (bs.length : Int) := by omega
            have hti : bs.take j = bs := List.take_of_length_le (by omega)
            rw [hti, ← HTK.out] at HO
            clear hti
            go_wp2_with fail
            go_roundg (T.length - (i + 1))
            case measure => omega
            exact ⟨i + 1, by go_num, by omega, by omega, HB.out, HO.out⟩
      · have hltz : ¬ (i : Int) < (T.length : Int) := by omega
        have hti : T.take i = T := List.take_of_length_le (by omega)
        rw [hti, ← HUN.out] at HO
        have hUl : (keysF F).length ≤ 2000000 := by
          unfold keysF
          refine Nat.le_trans (told_len _ _ _) ?_
          rw [← HM2.out, txtsX_flds]
          exact HT2.out
        have HPT : Hid (∀ W, Below w4.heap.size w4 W → ∀ k ∈ keysF F, Calls Try.prog 9 #[u2, .agg #[.string k.1, .string k.2]] W fun e w' => e = .returned (.bool true) ∧ Below W.heap.size W w') := fun W hW k hk => by
          have hpt := mem_keysF.1 hk
          obtain ⟨f, _, t, _, hnm⟩ := hpt
          obtain ⟨h1, h2⟩ := keyB_sizes (a := k.1) (b := k.2) (namedT_some hnm).2
          have := points_any u2 o2 k W (HN.out.kept hW) HF2.out (by unfold maxLen; omega) (by unfold maxLen; omega)
          rw [HM2.out, pointsB_iff.2 (mem_keysF.1 hk)] at this
          exact this
        have HKU : Hid (∀ W, Below w4.heap.size w4 W → Calls Try.prog 6 #[u2] W fun e w' => ∃ u, e = .returned u ∧ KK.Own W.heap.size w' u (keysF F) ∧ Below W.heap.size W w') := fun W hW => by
          have := keys_any u2 o2 W (HN.out.kept hW) HF2.out HT2.out
          rw [HM2.out] at this
          exact this
        obtain ⟨U, hU⟩ : ∃ U, keysF F = U := ⟨_, rfl⟩
        rw [hU] at HO hUl HPT HKU
        obtain ⟨p7, c7, rfl, hd7⟩ := HO.out
        clear hti hU hd7
        go_wp2_with fail
        go_loopg [53] U.length (fun g vi wr2 => ∃ q : Nat, vi = .int .i64 q ∧ q ≤ U.length ∧ U.length - q ≤ g ∧ Hid (Below w4.heap.size w4 wr2) ∧ Hid (KK.Is wr2 (.slice p7 U.length c7) U))
        case atStart => exact ⟨0, rfl, by omega, by omega, HB.out, HO.out⟩
        case round =>
          clear HB HO
          obtain ⟨q, rfl, hq, hgq, HB, HO⟩ := hrel
          by_cases hlq : q < U.length
          · have hlqz : (q : Int) < (U.length : Int) := by omega
            have hqz : (0 : Int) ≤ q := by omega
            obtain ⟨b7, off7, rfl, hat⟩ : ∃ b off, p7 = some ⟨b, off, none⟩ ∧ KK.At wr b off U := by
              obtain ⟨x, y, he, h⟩ := HO.out
              injection he with e1 _ _
              subst e1
              rcases h with h | h
              · rw [h] at hlq; simp at hlq
              · exact h
            obtain ⟨c0, c1⟩ := kk_at hat q hlq
            have hmem := List.getElem_mem hlq
            obtain ⟨k, hk⟩ : ∃ k, U[q] = k := ⟨_, rfl⟩
            rw [hk] at c0 c1 hmem
            have HBA := hid (HB.out.alloc HB.out.size (.cells #[.string k.1, .string k.2] 33))
            have HOA := hid (Kind.is_kept HO.out ((Below.refl _ _).alloc (Nat.le_refl _) (.cells #[.string k.1, .string k.2] 33)))
            have HPC := hid (HPT.out _ HBA.out k hmem)
            clear hat hmem hk
            go_wp2_with fail
            refine HPC.out.mono ?_
            rintro e w8 ⟨rfl, hq8⟩
            have HB8 := hid (bel_then HBA.out HBA.out.size hq8)
            have HO8 := hid (Kind.is_kept HOA.out hq8)
            clear hq8
            go_wp2_with fail
            go_roundg (U.length - (q + 1))
            case measure => omega
            exact ⟨q + 1, by go_num, by omega, by omega, HB8.out, HO8.out⟩
          · have hlqz : ¬ (q : Int) < (U.length : Int) := by omega
            go_wp2_with fail
            refine (HKU.out wr HB.out).mono ?_
            rintro e w8 ⟨u8, rfl, ho8, hq8⟩
            have HB8 := hid (bel_then HB.out HB.out.size hq8)
            have HS := hid (Z.zsame_any u8 (.slice p7 U.length c7) U U w8 (z_is_ky (Kind.own_is ho8)) (z_is_ky (Kind.is_kept HO.out hq8)) (by unfold maxLen; omega) (by unfold maxLen; omega))
            rw [decide_eq_true rfl] at HS
            clear ho8 hq8
            go_wp2_with fail
            refine HS.out.mono ?_
            rintro e w9 ⟨rfl, n9, rfl⟩
            go_wp2_with fail
            go_ret
            exact ⟨rfl, bel_drewN (bel_then HW.out HW.out.size HB8.out) n9⟩
  · obtain ⟨C, hC⟩ : ∃ C, rsCode bs (d.map Fx.fld) = C := ⟨_, rfl⟩
    rw [hC] at H1 hC0
    have hcn : (C != 0) = true := by rw [bne_iff_ne]; exact hC0
    clear hv hvb hf hc hT hfb hC0 hC HFT
    go_enter Try.func3, Try.ntmps3
    go_wp2_with fail
    refine (rfixed_any _).mono ?_
    rintro e w1 ⟨rfl, hq1⟩
    have HB1 := hid hq1
    clear hq1
    go_wp2_with fail
    refine (H1.out w1 HB1.out).mono ?_
    rintro e w2 ⟨u2, o2, rfl, ho2, hm2, hq2⟩
    have HB2 := hid (bel_then HB1.out HB1.out.size hq2)
    clear ho2 hm2 hq2 H1 HB1
    go_wp2_with fail
    go_ret
    exact ⟨rfl, HB2.out⟩

end Go.Proofs.Ytinmagodckkedab
