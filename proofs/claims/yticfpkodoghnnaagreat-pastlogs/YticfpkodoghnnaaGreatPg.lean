/-
  Texts of this claim, one behind the other: Lp1 Lp2 Lp3 Lp4 Lp5.
-/
import Derived.Test.YticfpkodoghnnaaGreatPf
import Derived.Test.YticfpkodoghnnaaGreatPa
import Derived.Test.YticfpkodoghnnaaGreatPb
import Derived.Test.YticfpkodoghnnaaGreatPd
/-
  slices.IndexFunc and slices.DeleteFunc at versions (stage 14).
-/
namespace Go.Proofs.YticfpkodoghnnaaGreat
open Go.RowKit Go.Lib

theorem ones_all {l : List Value} (h : (l.all fun u => u.oneCell') = true) : ∀ u ∈ l, u.oneCell' = true := List.all_eq_true.1 h
/-- What IndexFunc answers. -/
def IdxQ {α : Type} (f : α → Bool) (l : List α) (e : Ending) : Prop := (∃ i, ∃ h : i < l.length, e = .returned (.int .i64 i) ∧ (∀ x ∈ l.take i, f x = false) ∧ f l[i] = true) ∨ (e = .returned (.int .i64 (-1)) ∧ ∀ x ∈ l, f x = false)
/-- What DeleteFunc leaves. -/
def DelP {α : Type} (K : Kind α) (f : α → Bool) (N g cap : Nat) (o : List α) (w : World) (e : Ending) (w' : World) : Prop := ∃ m, e = .returned (.slice (some ⟨g, 0, none⟩) m cap) ∧ K.Own N w' (.slice (some ⟨g, 0, none⟩) m cap) (o.filter fun x => !f x) ∧ w.grownBy w' (some g)

set_option maxHeartbeats 4000000 in
set_option maxRecDepth 100000 in
theorem idxV_any (f : Vx → Bool) (k : Nat) (lb : Array Value) (eg : ∀ args w, (callFunc k args).run Tryz.prog w = .ok (.enter k args) w) (v : Value) (l : List Vx) (w : World) (hv : KV.Is w v l) (hl : l.length ≤ 9000000000000000000)
    (hk : ∀ (W : World) (x : Vx), Below w.heap.size w W → x ∈ l → Calls Tryz.prog k (#[.agg (encVx x).toArray] ++ lb) W fun e w' => e = .returned (.bool (f x)) ∧ Below W.heap.size W w') :
    Calls Tryz.prog 67 #[v, .func (.func k) #[] lb] w fun e w' => IdxQ f l e ∧ Below w.heap.size w w' := by
  obtain ⟨p, cap, rfl, hd⟩ := hv
  have HD := hid hd
  have HK := hid hk
  clear hd hk
  go_enter Tryz.func67, Tryz.ntmps67
  go_wp2_with fail
  go_loopg [8] l.length (fun gg vi wr => ∃ i : Nat, vi = .int .i64 i ∧ i ≤ l.length ∧ l.length - i ≤ gg ∧ Hid (Below w.heap.size w wr ∧ ∀ x ∈ l.take i, f x = false))
  case atStart => exact ⟨0, rfl, by omega, by omega, Below.refl _ _, fun x hx => by simp at hx⟩
  case round =>
    obtain ⟨i, rfl, hi, hgk, HI⟩ := hrel
    by_cases hlt : i < l.length
    · have hltz : (i : Int) < (l.length : Int) := by omega
      have hiz : (0 : Int) ≤ i := by omega
      obtain ⟨b1, o1, rfl, k1⟩ : ∃ b off, p = some ⟨b, off, none⟩ ∧ KV.At w b off l := by
        rcases HD.out with h | h
        · rw [h] at hlt; simp at hlt
        · exact h
      obtain ⟨y0, y1, y2, y3, y4⟩ := kv_at (Kind.at_kept k1 HI.out.1) i hlt
      have hmem : l[i] ∈ l := List.getElem_mem hlt
      have htk : l.take (i + 1) = l.take i ++ [l[i]] := List.take_succ_eq_append_getElem hlt
      have HC := hid (HK.out wr l[i] HI.out.1 hmem)
      have HNO : Hid (f l[i] = false → ∀ x ∈ l.take (i + 1), f x = false) := fun h x hx => by
        rw [htk] at hx
        rcases List.mem_append.1 hx with hx | hx
        · exact HI.out.2 x hx
        · rw [List.mem_singleton.1 hx]; exact h
      have HYES : Hid (f l[i] = true → IdxQ f l (.returned (.int .i64 i))) := fun h => Or.inl ⟨i, hlt, rfl, HI.out.2, h⟩
      have HB := hid HI.out.1
      clear HI k1 hmem htk
      generalize l[i] = x at *
      cases hq : f x with
      | true =>
        rw [hq] at HC
        have HY := hid (HYES.out hq)
        clear HNO HYES hq
        simp only [encVx, Vx.sl] at *
        go_wp2_with (go_at_fn k; refine HC.out.mono ?_; rintro e w1 ⟨rfl, hb1⟩)
        go_ret
        exact ⟨HY.out, bel_then HB.out HB.out.size hb1⟩
      | false =>
        rw [hq] at HC
        have HN := hid (HNO.out hq)
        clear HNO HYES hq
        simp only [encVx, Vx.sl] at *
        go_wp2_with (go_at_fn k; refine HC.out.mono ?_; rintro e w1 ⟨rfl, hb1⟩)
        have HB1 := hid (bel_then HB.out HB.out.size hb1)
        clear hb1
        go_roundg (l.length - (i + 1))
        case measure => omega
        exact ⟨i + 1, by go_num, by omega, by omega, HB1.out, HN.out⟩
    · have hltz : ¬ (i : Int) < (l.length : Int) := by omega
      have hti : l.take i = l := List.take_of_length_le (by omega)
      rw [hti] at HI
      go_wp2_with fail
      go_ret
      exact ⟨Or.inr ⟨rfl, HI.out.2⟩, HI.out.1⟩

theorem delfV_nil (f : Vx → Bool) (k : Nat) (lb : Array Value) (eg : ∀ args w, (callFunc k args).run Tryz.prog w = .ok (.enter k args) w) (w : World) : Calls Tryz.prog 40 #[.slice none 0 0, .func (.func k) #[] lb] w fun e w' => e = .returned (.slice none 0 0) ∧ Below w.heap.size w w' := by
  have HX := hid (idxV_any f k lb eg (.slice none 0 0) [] w (KV.is_nil w) (by simp) (fun _ x _ hx => by cases hx))
  go_enter Tryz.func40, Tryz.ntmps40
  go_wp2_with fail
  refine HX.out.mono ?_
  rintro e w1 ⟨hi, hb1⟩
  rcases hi with ⟨i, h, _⟩ | ⟨rfl, _⟩
  · simp at h
  · have HB := hid hb1
    clear hb1
    go_wp2_with fail
    go_ret
    exact ⟨rfl, HB.out⟩

set_option maxHeartbeats 8000000 in
set_option maxRecDepth 100000 in
theorem delfV_any (f : Vx → Bool) (k : Nat) (lb : Array Value) (eg : ∀ args w, (callFunc k args).run Tryz.prog w = .ok (.enter k args) w) (N g n cap : Nat) (o : List Vx) (w : World) (h : KV.Own N w (.slice (some ⟨g, 0, none⟩) n cap) o) (hl : n ≤ 2400000000000)
    (hk : ∀ (W : World) (x : Vx), w.grownBy W (some g) → x ∈ o → Calls Tryz.prog k (#[.agg (encVx x).toArray] ++ lb) W fun e w' => e = .returned (.bool (f x)) ∧ Below W.heap.size W w') :
    Calls Tryz.prog 40 #[.slice (some ⟨g, 0, none⟩) n cap, .func (.func k) #[] lb] w fun e w' => DelP KV f N g cap o w e w' := by
  obtain ⟨hcs, hfz, hNg, hon, hgl⟩ := Kind.own_any h
  have hcap : n ≤ cap := by
    rcases h.2 with ⟨hv, _⟩ | ⟨g', cap', cur, hv, h1, h2, h3, h4, h5, h6⟩
    · cases hv
    · injection hv with e1 e2 e3
      rw [e2, e3]; exact h3
  have HX := hid (idxV_any f k lb eg (.slice (some ⟨g, 0, none⟩) n cap) o w (Kind.own_is h) (by omega) (fun W x hb hx => hk W x (grown_belK (grown_self w _) hb) hx))
  have HK := hid hk
  have HO := hid h
  have HON := hid hon
  clear hk h hcs hfz
  go_enter Tryz.func40, Tryz.ntmps40
  go_wp2_with fail
  refine HX.out.mono ?_
  rintro e w1 ⟨hi, hb1⟩
  have HB1 := hid hb1
  clear hb1 HX
  rcases hi with ⟨i0, hi0, rfl, hn0, hy0⟩ | ⟨rfl, hn0⟩
  · have hi0n : i0 < n := by rw [← hon]; exact hi0
    have ST0 : Hid (DelIn f o o i0 (i0 + 1) ∧ KV.Own N w1 (.slice (some ⟨g, 0, none⟩) n cap) o ∧ w.grownBy w1 (some g)) := ⟨DelIn.start hi0 hn0 hy0, Kind.own_on HO.out HB1.out, grown_belK (grown_self w _) HB1.out⟩
    have hiz : (0 : Int) ≤ (i0 : Int) := by omega
    have hne1 : ((i0 : Int) == -1) = false := by rw [beq_eq_false_iff_ne]; omega
    clear hn0 hy0 hi0 HO HB1 hon
    go_wp2_with fail
    go_loopg [5, 6] n (fun gg s5 s6 wr => ∃ (i j : Nat) (c : List Vx), s5 = .int .i64 i ∧ s6 = .int .i64 j ∧ i < j ∧ j ≤ n ∧ n - j ≤ gg ∧ Hid (DelIn f o c i j ∧ KV.Own N wr (.slice (some ⟨g, 0, none⟩) n cap) c ∧ w.grownBy wr (some g)))
    case atStart => exact ⟨i0, i0 + 1, o, rfl, by go_num, by omega, by omega, by omega, ST0.out⟩
    case round =>
      clear ST0
      obtain ⟨i, j, c, rfl, rfl, hij, hjn, hgk, HI⟩ := hrel
      have hiz : (0 : Int) ≤ (i : Int) := by omega
      have hjz : (0 : Int) ≤ (j : Int) := by omega
      by_cases hlt : j < n
      · have hltz : (j : Int) < (n : Int) := by omega
        have hinz : (i : Int) < (n : Int) := by omega
        have hjo : j < o.length := by rw [HON.out]; exact hlt
        obtain ⟨hjc, hce⟩ := HI.out.1.at hjo
        have hmem : o[j] ∈ o := List.getElem_mem hjo
        obtain ⟨p', c', he', hd'⟩ := Kind.own_is HI.out.2.1
        injection he' with he' e5 e6
        subst he'
        clear e5 e6
        have hat : KV.At wr g 0 c := by
          rcases hd' with hd' | ⟨b2, o2, e2, hd'⟩
          · rw [hd'] at hjc; simp at hjc
          · injection e2 with e2
            injection e2 with e2 e3 _
            subst e2 e3
            exact hd'
        have hcj := kv_at hat j hjc
        rw [hce, Nat.zero_add] at hcj
        obtain ⟨b0, b1, b2, b3, b4⟩ := hcj
        have hown := HI.out.2.1
        have hgr := HI.out.2.2
        obtain ⟨hcs, hfz, _, hcl, hgw⟩ := Kind.own_any hown
        have HSK : Hid (f o[j] = true → DelIn f o c i (j + 1)) := fun hy => HI.out.1.skip hjo hy
        have HKP : Hid (f o[j] = false → DelIn f o (c.set i o[j]) (i + 1) (j + 1)) := fun hy => HI.out.1.keep hjo hy
        have HBX : Hid (Below wr.heap.size wr (wr.alloc (.cells (encVx o[j]).toArray 39))) := (Below.refl _ _).alloc (Nat.le_refl _) _
        have HC := hid (HK.out _ o[j] (grown_belK hgr HBX.out) hmem)
        have HPUT : Hid (∀ w6, Below wr.heap.size wr w6 → KV.Own N (setFrom w6 g (i * 5) 0 (encVx o[j])) (.slice (some ⟨g, 0, none⟩) n cap) (c.set i o[j]) ∧ w.grownBy (setFrom w6 g (i * 5) 0 (encVx o[j])) (some g)) := fun w6 hb => ⟨Kind.own_set (Kind.own_on hown hb) i (by rw [hcl]; omega) _, grown_setFrom 0 _ _ _ (grown_belK hgr hb)⟩
        have HSTAY : Hid (∀ w6, Below wr.heap.size wr w6 → KV.Own N w6 (.slice (some ⟨g, 0, none⟩) n cap) c ∧ w.grownBy w6 (some g)) := fun w6 hb => ⟨Kind.own_on hown hb, grown_belK hgr hb⟩
        have HCELL : Hid (∀ w6, Below wr.heap.size wr w6 → (∀ t, t < n * 5 → (w6.cell? ⟨g, t, none⟩).isSome = true) ∧ ∀ t, w6.frozen? ⟨g, t, none⟩ = false) := fun w6 hb => ⟨(Kind.own_any (Kind.own_on hown hb)).1, (Kind.own_any (Kind.own_on hown hb)).2.1⟩
        have HNEW : Hid ((wr.alloc (.cells (encVx o[j]).toArray 39)).heap[wr.heap.size]? = some (.cells (encVx o[j]).toArray 39 (0, 0))) := heap_alloc_new wr _
        clear hown hgr hat hce hmem hd' HI hcs hfz
        generalize o[j] = x at *
        clear hjo
        have HAL : Hid (wr.heap.size < (wr.alloc (.cells (encVx x).toArray 39)).heap.size) := (Array.getElem?_eq_some_iff.1 HNEW.out).1
        clear hcl hgw hjc
        simp only [encVx, Vx.sl] at *

        cases hq : f x with
        | true =>
          rw [hq] at HC
          have HN := hid (HSK.out hq)
          clear HSK HKP hq HPUT HCELL
          go_wp2_with (go_at_fn k; refine HC.out.mono ?_; rintro e w6 ⟨rfl, hb6⟩)
          have HB6 := hid (bel_then HBX.out HBX.out.size hb6)
          clear hb6
          go_roundg (n - (j + 1))
          case measure => omega
          exact ⟨i, j + 1, c, rfl, by go_num, by omega, by omega, by omega, HN.out, HSTAY.out _ HB6.out⟩
        | false =>
          rw [hq] at HC
          have HN := hid (HKP.out hq)
          clear HSK HKP hq HSTAY
          go_wp2_with fail
          refine HC.out.mono ?_
          rintro e w6 ⟨rfl, hb6⟩
          have hb6' := bel_then HBX.out HBX.out.size hb6
          have hx6 := (hb6.block wr.heap.size HAL.out).trans HNEW.out
          obtain ⟨hcs6, hfz6⟩ := HCELL.out w6 hb6'
          have x0 : w6.cell? ⟨wr.heap.size, 0, none⟩ = some (.int .i64 x.num) := (Lib.cell_of_heap hx6 0).trans rfl
          have x1 : w6.cell? ⟨wr.heap.size, 1, none⟩ = some (.int .u64 x.stamp) := (Lib.cell_of_heap hx6 1).trans rfl
          have x2 : w6.cell? ⟨wr.heap.size, 2, none⟩ = some (.int .i64 x.tick) := (Lib.cell_of_heap hx6 2).trans rfl
          have x3 : w6.cell? ⟨wr.heap.size, 3, none⟩ = some (.bool x.live) := (Lib.cell_of_heap hx6 3).trans rfl
          have x4 : w6.cell? ⟨wr.heap.size, 4, none⟩ = some (.slice x.p x.o.length x.cap) := (Lib.cell_of_heap hx6 4).trans rfl
          obtain ⟨u0, r0⟩ := Option.isSome_iff_exists.1 (hcs6 (i * 5) (by omega))
          obtain ⟨u1, r1⟩ := Option.isSome_iff_exists.1 (hcs6 (i * 5 + 1) (by omega))
          obtain ⟨u2, r2⟩ := Option.isSome_iff_exists.1 (hcs6 (i * 5 + 2) (by omega))
          obtain ⟨u3, r3⟩ := Option.isSome_iff_exists.1 (hcs6 (i * 5 + 3) (by omega))
          obtain ⟨u4, r4⟩ := Option.isSome_iff_exists.1 (hcs6 (i * 5 + 4) (by omega))
          have z0 := hfz6 (i * 5)
          have z1 := hfz6 (i * 5 + 1)
          have z2 := hfz6 (i * 5 + 2)
          have z3 := hfz6 (i * 5 + 3)
          have z4 := hfz6 (i * 5 + 4)
          have HB6 := hid hb6'
          clear hb6 hb6' hx6 hcs6 hfz6
          go_wp2_with fail
          go_roundg (n - (j + 1))
          case measure => omega
          exact ⟨i + 1, j + 1, _, by go_num, by go_num, by omega, by omega, by omega, HN.out, HPUT.out _ HB6.out⟩
      · have hltz : ¬ (j : Int) < (n : Int) := by omega
        have hje : j = n := by omega
        have hinz : (i : Int) ≤ (n : Int) := by omega
        have hicz : (i : Int) ≤ (cap : Int) := by omega
        have hncz : (n : Int) ≤ (cap : Int) := by omega
        have hcne : ¬ cap = i := by omega
        obtain ⟨hcs, hfz, _, hcl, hgw⟩ := Kind.own_any HI.out.2.1
        obtain ⟨zs, hcr⟩ : ∃ zs : List Value, ∀ ty c, (Builtin.clear_ #[51] ty #[.slice (some ⟨g, i * 5, none⟩) (n - i) c]).run Tryz.prog wr = .ok (.tuple #[]) (wr.setCells g (i * 5) zs) :=
          Kind.run_clear KV 51 (.agg #[.int .i64 0, .int .u64 0, .int .i64 0, .bool false, .slice none 0 0]) Tryz.underlying51 Tryz.zeroValue39 rfl (fun u hu => ones_all (by rfl) u hu) wr g (i * 5) (n - i) (by omega) (fun t ht => hcs _ (by show _ < n * 5; have ht' : t < (n - i) * 5 := ht; omega)) (fun t _ => hfz _)
        have HP : Hid (DelP KV f N g cap o w (.returned (.slice (some ⟨g, 0, none⟩) i cap)) (wr.setCells g (i * 5) zs)) := by
          have hd := HI.out.1
          rw [hje, ← HON.out] at hd
          refine ⟨i, rfl, ?_, grown_setsK zs _ _ _ HI.out.2.2⟩
          rw [← hd.done]
          exact Kind.own_past zs wr (i * 5) (Kind.own_cut HI.out.2.1 i (by omega)) (by rw [List.length_take]; omega) (Nat.le_refl _)
        clear HI hcs hfz hje
        go_wp2_with fail
        go_ret
        exact HP.out
  · have HP : Hid (DelP KV f N g cap o w (.returned (.slice (some ⟨g, 0, none⟩) n cap)) w1) := by
      refine ⟨n, rfl, ?_, grown_belK (grown_self w _) HB1.out⟩
      rw [List.filter_eq_self.2 fun x hx => by simp [hn0 x hx]]
      exact Kind.own_on HO.out HB1.out
    clear hn0 HO HB1
    go_wp2_with fail
    go_ret
    exact HP.out

end Go.Proofs.YticfpkodoghnnaaGreat

/-
  slices.IndexFunc and slices.DeleteFunc at finds (stage 14).
-/
namespace Go.Proofs.YticfpkodoghnnaaGreat
open Go.RowKit Go.Lib

set_option maxHeartbeats 4000000 in
set_option maxRecDepth 100000 in
theorem idxF_any (f : Fd → Bool) (k : Nat) (lb : Array Value) (eg : ∀ args w, (callFunc k args).run Tryz.prog w = .ok (.enter k args) w) (v : Value) (l : List Fd) (w : World) (hv : KFd.Is w v l) (hl : l.length ≤ 9000000000000000000)
    (hk : ∀ (W : World) (x : Fd), Below w.heap.size w W → x ∈ l → Calls Tryz.prog k (#[.agg (encFd x).toArray] ++ lb) W fun e w' => e = .returned (.bool (f x)) ∧ Below W.heap.size W w') :
    Calls Tryz.prog 69 #[v, .func (.func k) #[] lb] w fun e w' => IdxQ f l e ∧ Below w.heap.size w w' := by
  obtain ⟨p, cap, rfl, hd⟩ := hv
  have HD := hid hd
  have HK := hid hk
  clear hd hk
  go_enter Tryz.func69, Tryz.ntmps69
  go_wp2_with fail
  go_loopg [8] l.length (fun gg vi wr => ∃ i : Nat, vi = .int .i64 i ∧ i ≤ l.length ∧ l.length - i ≤ gg ∧ Hid (Below w.heap.size w wr ∧ ∀ x ∈ l.take i, f x = false))
  case atStart => exact ⟨0, rfl, by omega, by omega, Below.refl _ _, fun x hx => by simp at hx⟩
  case round =>
    obtain ⟨i, rfl, hi, hgk, HI⟩ := hrel
    by_cases hlt : i < l.length
    · have hltz : (i : Int) < (l.length : Int) := by omega
      have hiz : (0 : Int) ≤ i := by omega
      obtain ⟨b1, o1, rfl, k1⟩ : ∃ b off, p = some ⟨b, off, none⟩ ∧ KFd.At w b off l := by
        rcases HD.out with h | h
        · rw [h] at hlt; simp at hlt
        · exact h
      obtain ⟨y0, y1, y2, y3, y4, y5, y6⟩ := kfd_at (Kind.at_kept k1 HI.out.1) i hlt
      have hmem : l[i] ∈ l := List.getElem_mem hlt
      have htk : l.take (i + 1) = l.take i ++ [l[i]] := List.take_succ_eq_append_getElem hlt
      have HC := hid (HK.out wr l[i] HI.out.1 hmem)
      have HNO : Hid (f l[i] = false → ∀ x ∈ l.take (i + 1), f x = false) := fun h x hx => by
        rw [htk] at hx
        rcases List.mem_append.1 hx with hx | hx
        · exact HI.out.2 x hx
        · rw [List.mem_singleton.1 hx]; exact h
      have HYES : Hid (f l[i] = true → IdxQ f l (.returned (.int .i64 i))) := fun h => Or.inl ⟨i, hlt, rfl, HI.out.2, h⟩
      have HB := hid HI.out.1
      clear HI k1 hmem htk
      generalize l[i] = x at *
      cases hq : f x with
      | true =>
        rw [hq] at HC
        have HY := hid (HYES.out hq)
        clear HNO HYES hq
        simp only [encFd, encVx, Vx.sl] at *
        go_wp2_with (go_at_fn k; refine HC.out.mono ?_; rintro e w1 ⟨rfl, hb1⟩)
        go_ret
        exact ⟨HY.out, bel_then HB.out HB.out.size hb1⟩
      | false =>
        rw [hq] at HC
        have HN := hid (HNO.out hq)
        clear HNO HYES hq
        simp only [encFd, encVx, Vx.sl] at *
        go_wp2_with (go_at_fn k; refine HC.out.mono ?_; rintro e w1 ⟨rfl, hb1⟩)
        have HB1 := hid (bel_then HB.out HB.out.size hb1)
        clear hb1
        go_roundg (l.length - (i + 1))
        case measure => omega
        exact ⟨i + 1, by go_num, by omega, by omega, HB1.out, HN.out⟩
    · have hltz : ¬ (i : Int) < (l.length : Int) := by omega
      have hti : l.take i = l := List.take_of_length_le (by omega)
      rw [hti] at HI
      go_wp2_with fail
      go_ret
      exact ⟨Or.inr ⟨rfl, HI.out.2⟩, HI.out.1⟩

theorem delfF_nil (f : Fd → Bool) (k : Nat) (lb : Array Value) (eg : ∀ args w, (callFunc k args).run Tryz.prog w = .ok (.enter k args) w) (w : World) : Calls Tryz.prog 44 #[.slice none 0 0, .func (.func k) #[] lb] w fun e w' => e = .returned (.slice none 0 0) ∧ Below w.heap.size w w' := by
  have HX := hid (idxF_any f k lb eg (.slice none 0 0) [] w (KFd.is_nil w) (by simp) (fun _ x _ hx => by cases hx))
  go_enter Tryz.func44, Tryz.ntmps44
  go_wp2_with fail
  refine HX.out.mono ?_
  rintro e w1 ⟨hi, hb1⟩
  rcases hi with ⟨i, h, _⟩ | ⟨rfl, _⟩
  · simp at h
  · have HB := hid hb1
    clear hb1
    go_wp2_with fail
    go_ret
    exact ⟨rfl, HB.out⟩

set_option maxHeartbeats 8000000 in
set_option maxRecDepth 100000 in
theorem delfF_any (f : Fd → Bool) (k : Nat) (lb : Array Value) (eg : ∀ args w, (callFunc k args).run Tryz.prog w = .ok (.enter k args) w) (N g n cap : Nat) (o : List Fd) (w : World) (h : KFd.Own N w (.slice (some ⟨g, 0, none⟩) n cap) o) (hl : n ≤ 2400000000000)
    (hk : ∀ (W : World) (x : Fd), w.grownBy W (some g) → x ∈ o → Calls Tryz.prog k (#[.agg (encFd x).toArray] ++ lb) W fun e w' => e = .returned (.bool (f x)) ∧ Below W.heap.size W w') :
    Calls Tryz.prog 44 #[.slice (some ⟨g, 0, none⟩) n cap, .func (.func k) #[] lb] w fun e w' => DelP KFd f N g cap o w e w' := by
  obtain ⟨hcs, hfz, hNg, hon, hgl⟩ := Kind.own_any h
  have hcap : n ≤ cap := by
    rcases h.2 with ⟨hv, _⟩ | ⟨g', cap', cur, hv, h1, h2, h3, h4, h5, h6⟩
    · cases hv
    · injection hv with e1 e2 e3
      rw [e2, e3]; exact h3
  have HX := hid (idxF_any f k lb eg (.slice (some ⟨g, 0, none⟩) n cap) o w (Kind.own_is h) (by omega) (fun W x hb hx => hk W x (grown_belK (grown_self w _) hb) hx))
  have HK := hid hk
  have HO := hid h
  have HON := hid hon
  clear hk h hcs hfz
  go_enter Tryz.func44, Tryz.ntmps44
  go_wp2_with fail
  refine HX.out.mono ?_
  rintro e w1 ⟨hi, hb1⟩
  have HB1 := hid hb1
  clear hb1 HX
  rcases hi with ⟨i0, hi0, rfl, hn0, hy0⟩ | ⟨rfl, hn0⟩
  · have hi0n : i0 < n := by rw [← hon]; exact hi0
    have ST0 : Hid (DelIn f o o i0 (i0 + 1) ∧ KFd.Own N w1 (.slice (some ⟨g, 0, none⟩) n cap) o ∧ w.grownBy w1 (some g)) := ⟨DelIn.start hi0 hn0 hy0, Kind.own_on HO.out HB1.out, grown_belK (grown_self w _) HB1.out⟩
    have hiz : (0 : Int) ≤ (i0 : Int) := by omega
    have hne1 : ((i0 : Int) == -1) = false := by rw [beq_eq_false_iff_ne]; omega
    clear hn0 hy0 hi0 HO HB1 hon
    go_wp2_with fail
    go_loopg [5, 6] n (fun gg s5 s6 wr => ∃ (i j : Nat) (c : List Fd), s5 = .int .i64 i ∧ s6 = .int .i64 j ∧ i < j ∧ j ≤ n ∧ n - j ≤ gg ∧ Hid (DelIn f o c i j ∧ KFd.Own N wr (.slice (some ⟨g, 0, none⟩) n cap) c ∧ w.grownBy wr (some g)))
    case atStart => exact ⟨i0, i0 + 1, o, rfl, by go_num, by omega, by omega, by omega, ST0.out⟩
    case round =>
      clear ST0
      obtain ⟨i, j, c, rfl, rfl, hij, hjn, hgk, HI⟩ := hrel
      have hiz : (0 : Int) ≤ (i : Int) := by omega
      have hjz : (0 : Int) ≤ (j : Int) := by omega
      by_cases hlt : j < n
      · have hltz : (j : Int) < (n : Int) := by omega
        have hinz : (i : Int) < (n : Int) := by omega
        have hjo : j < o.length := by rw [HON.out]; exact hlt
        obtain ⟨hjc, hce⟩ := HI.out.1.at hjo
        have hmem : o[j] ∈ o := List.getElem_mem hjo
        obtain ⟨p', c', he', hd'⟩ := Kind.own_is HI.out.2.1
        injection he' with he' e5 e6
        subst he'
        clear e5 e6
        have hat : KFd.At wr g 0 c := by
          rcases hd' with hd' | ⟨b2, o2, e2, hd'⟩
          · rw [hd'] at hjc; simp at hjc
          · injection e2 with e2
            injection e2 with e2 e3 _
            subst e2 e3
            exact hd'
        have hcj := kfd_at hat j hjc
        rw [hce, Nat.zero_add] at hcj
        obtain ⟨b0, b1, b2, b3, b4, b5, b6⟩ := hcj
        have hown := HI.out.2.1
        have hgr := HI.out.2.2
        obtain ⟨hcs, hfz, _, hcl, hgw⟩ := Kind.own_any hown
        have HSK : Hid (f o[j] = true → DelIn f o c i (j + 1)) := fun hy => HI.out.1.skip hjo hy
        have HKP : Hid (f o[j] = false → DelIn f o (c.set i o[j]) (i + 1) (j + 1)) := fun hy => HI.out.1.keep hjo hy
        have HBX : Hid (Below wr.heap.size wr (wr.alloc (.cells (encFd o[j]).toArray 70))) := (Below.refl _ _).alloc (Nat.le_refl _) _
        have HC := hid (HK.out _ o[j] (grown_belK hgr HBX.out) hmem)
        have HPUT : Hid (∀ w6, Below wr.heap.size wr w6 → KFd.Own N (setFrom w6 g (i * 7) 0 (encFd o[j])) (.slice (some ⟨g, 0, none⟩) n cap) (c.set i o[j]) ∧ w.grownBy (setFrom w6 g (i * 7) 0 (encFd o[j])) (some g)) := fun w6 hb => ⟨Kind.own_set (Kind.own_on hown hb) i (by rw [hcl]; omega) _, grown_setFrom 0 _ _ _ (grown_belK hgr hb)⟩
        have HSTAY : Hid (∀ w6, Below wr.heap.size wr w6 → KFd.Own N w6 (.slice (some ⟨g, 0, none⟩) n cap) c ∧ w.grownBy w6 (some g)) := fun w6 hb => ⟨Kind.own_on hown hb, grown_belK hgr hb⟩
        have HCELL : Hid (∀ w6, Below wr.heap.size wr w6 → (∀ t, t < n * 7 → (w6.cell? ⟨g, t, none⟩).isSome = true) ∧ ∀ t, w6.frozen? ⟨g, t, none⟩ = false) := fun w6 hb => ⟨(Kind.own_any (Kind.own_on hown hb)).1, (Kind.own_any (Kind.own_on hown hb)).2.1⟩
        have HNEW : Hid ((wr.alloc (.cells (encFd o[j]).toArray 70)).heap[wr.heap.size]? = some (.cells (encFd o[j]).toArray 70 (0, 0))) := heap_alloc_new wr _
        clear hown hgr hat hce hmem hd' HI hcs hfz
        generalize o[j] = x at *
        clear hjo
        have HAL : Hid (wr.heap.size < (wr.alloc (.cells (encFd x).toArray 70)).heap.size) := (Array.getElem?_eq_some_iff.1 HNEW.out).1
        clear hcl hgw hjc
        simp only [encFd, encVx, Vx.sl] at *

        cases hq : f x with
        | true =>
          rw [hq] at HC
          have HN := hid (HSK.out hq)
          clear HSK HKP hq HPUT HCELL
          go_wp2_with (go_at_fn k; refine HC.out.mono ?_; rintro e w6 ⟨rfl, hb6⟩)
          have HB6 := hid (bel_then HBX.out HBX.out.size hb6)
          clear hb6
          go_roundg (n - (j + 1))
          case measure => omega
          exact ⟨i, j + 1, c, rfl, by go_num, by omega, by omega, by omega, HN.out, HSTAY.out _ HB6.out⟩
        | false =>
          rw [hq] at HC
          have HN := hid (HKP.out hq)
          clear HSK HKP hq HSTAY
          go_wp2_with fail
          refine HC.out.mono ?_
          rintro e w6 ⟨rfl, hb6⟩
          have hb6' := bel_then HBX.out HBX.out.size hb6
          have hx6 := (hb6.block wr.heap.size HAL.out).trans HNEW.out
          obtain ⟨hcs6, hfz6⟩ := HCELL.out w6 hb6'
          have x0 : w6.cell? ⟨wr.heap.size, 0, none⟩ = some (.string x.a) := (Lib.cell_of_heap hx6 0).trans rfl
          have x1 : w6.cell? ⟨wr.heap.size, 1, none⟩ = some (.string x.b) := (Lib.cell_of_heap hx6 1).trans rfl
          have x2 : w6.cell? ⟨wr.heap.size, 2, none⟩ = some (.int .i64 x.v.num) := (Lib.cell_of_heap hx6 2).trans rfl
          have x3 : w6.cell? ⟨wr.heap.size, 3, none⟩ = some (.int .u64 x.v.stamp) := (Lib.cell_of_heap hx6 3).trans rfl
          have x4 : w6.cell? ⟨wr.heap.size, 4, none⟩ = some (.int .i64 x.v.tick) := (Lib.cell_of_heap hx6 4).trans rfl
          have x5 : w6.cell? ⟨wr.heap.size, 5, none⟩ = some (.bool x.v.live) := (Lib.cell_of_heap hx6 5).trans rfl
          have x6 : w6.cell? ⟨wr.heap.size, 6, none⟩ = some (.slice x.v.p x.v.o.length x.v.cap) := (Lib.cell_of_heap hx6 6).trans rfl
          obtain ⟨u0, r0⟩ := Option.isSome_iff_exists.1 (hcs6 (i * 7) (by omega))
          obtain ⟨u1, r1⟩ := Option.isSome_iff_exists.1 (hcs6 (i * 7 + 1) (by omega))
          obtain ⟨u2, r2⟩ := Option.isSome_iff_exists.1 (hcs6 (i * 7 + 2) (by omega))
          obtain ⟨u3, r3⟩ := Option.isSome_iff_exists.1 (hcs6 (i * 7 + 3) (by omega))
          obtain ⟨u4, r4⟩ := Option.isSome_iff_exists.1 (hcs6 (i * 7 + 4) (by omega))
          obtain ⟨u5, r5⟩ := Option.isSome_iff_exists.1 (hcs6 (i * 7 + 5) (by omega))
          obtain ⟨u6, r6⟩ := Option.isSome_iff_exists.1 (hcs6 (i * 7 + 6) (by omega))
          have z0 := hfz6 (i * 7)
          have z1 := hfz6 (i * 7 + 1)
          have z2 := hfz6 (i * 7 + 2)
          have z3 := hfz6 (i * 7 + 3)
          have z4 := hfz6 (i * 7 + 4)
          have z5 := hfz6 (i * 7 + 5)
          have z6 := hfz6 (i * 7 + 6)
          have HB6 := hid hb6'
          clear hb6 hb6' hx6 hcs6 hfz6
          go_wp2_with fail
          go_roundg (n - (j + 1))
          case measure => omega
          exact ⟨i + 1, j + 1, _, by go_num, by go_num, by omega, by omega, by omega, HN.out, HPUT.out _ HB6.out⟩
      · have hltz : ¬ (j : Int) < (n : Int) := by omega
        have hje : j = n := by omega
        have hinz : (i : Int) ≤ (n : Int) := by omega
        have hicz : (i : Int) ≤ (cap : Int) := by omega
        have hncz : (n : Int) ≤ (cap : Int) := by omega
        have hcne : ¬ cap = i := by omega
        obtain ⟨hcs, hfz, _, hcl, hgw⟩ := Kind.own_any HI.out.2.1
        obtain ⟨zs, hcr⟩ : ∃ zs : List Value, ∀ ty c, (Builtin.clear_ #[46] ty #[.slice (some ⟨g, i * 7, none⟩) (n - i) c]).run Tryz.prog wr = .ok (.tuple #[]) (wr.setCells g (i * 7) zs) :=
          Kind.run_clear KFd 46 (.agg #[.string ⟨#[]⟩, .string ⟨#[]⟩, .int .i64 0, .int .u64 0, .int .i64 0, .bool false, .slice none 0 0]) Tryz.underlying46 Tryz.zeroValue70 rfl (fun u hu => ones_all (by rfl) u hu) wr g (i * 7) (n - i) (by omega) (fun t ht => hcs _ (by show _ < n * 7; have ht' : t < (n - i) * 7 := ht; omega)) (fun t _ => hfz _)
        have HP : Hid (DelP KFd f N g cap o w (.returned (.slice (some ⟨g, 0, none⟩) i cap)) (wr.setCells g (i * 7) zs)) := by
          have hd := HI.out.1
          rw [hje, ← HON.out] at hd
          refine ⟨i, rfl, ?_, grown_setsK zs _ _ _ HI.out.2.2⟩
          rw [← hd.done]
          exact Kind.own_past zs wr (i * 7) (Kind.own_cut HI.out.2.1 i (by omega)) (by rw [List.length_take]; omega) (Nat.le_refl _)
        clear HI hcs hfz hje
        go_wp2_with fail
        go_ret
        exact HP.out
  · have HP : Hid (DelP KFd f N g cap o w (.returned (.slice (some ⟨g, 0, none⟩) n cap)) w1) := by
      refine ⟨n, rfl, ?_, grown_belK (grown_self w _) HB1.out⟩
      rw [List.filter_eq_self.2 fun x hx => by simp [hn0 x hx]]
      exact Kind.own_on HO.out HB1.out
    clear hn0 HO HB1
    go_wp2_with fail
    go_ret
    exact HP.out

end Go.Proofs.YticfpkodoghnnaaGreat

/-
  Package past as it landed (stage 14): refused, Open, what Find, History, Since tell is new memory.
-/
namespace Go.Proofs.YticfpkodoghnnaaGreat
open Go.RowKit Go.Lib

/-- Versions and a code, told in new memory. -/
def NwVs (W : World) (r : List Vr × Int) (e : Ending) (w' : World) : Prop :=
  ∃ u o, e = .returned (.tuple #[u, .int .i64 r.2]) ∧ KV.Own W.heap.size w' u o ∧ (∀ x ∈ o, OwnJ W.heap.size w' x.sl x.o ∧ mayB (x.o.map Fx.fld) = true) ∧ o.map Vx.ver = r.1 ∧ Below W.heap.size W w'
/-- Finds and a code, told in new memory. -/
def NwF (W : World) (r : List Fnd × Int) (e : Ending) (w' : World) : Prop :=
  ∃ u fs, e = .returned (.tuple #[u, .int .i64 r.2]) ∧ KFd.Own W.heap.size w' u fs ∧ (∀ f ∈ fs, OwnJ W.heap.size w' f.v.sl f.v.o ∧ mayB (f.v.o.map Fx.fld) = true) ∧ fs.map Fd.fnd = r.1 ∧ Below W.heap.size W w'

theorem NwVs.rd {W : World} {r : List Vr × Int} {e : Ending} {w' : World} (h : NwVs W r e w') (hl : r.1.length ≤ 2400000000000) : RdVs W r e w' := by
  obtain ⟨u, o, rfl, h1, h2, h3, h4⟩ := h
  obtain ⟨p, c, rfl⟩ := Kind.own_shape h1
  exact ⟨p, c, o, rfl, Kind.own_is h1, fun x hx => ⟨(h2 x hx).1.1.is, (may_fit (h2 x hx).2).1⟩, h3, by rw [← h3, List.length_map] at hl; exact hl, h4⟩
theorem NwF.rd {W : World} {r : List Fnd × Int} {e : Ending} {w' : World} (h : NwF W r e w') (hl : r.1.length ≤ 2400000000000) : RdF W r e w' := by
  obtain ⟨u, o, rfl, h1, h2, h3, h4⟩ := h
  obtain ⟨p, c, rfl⟩ := Kind.own_shape h1
  exact ⟨p, c, o, rfl, Kind.own_is h1, fun x hx => ⟨(h2 x hx).1.1.is, (may_fit (h2 x hx).2).1⟩, h3, by rw [← h3, List.length_map] at hl; exact hl, h4⟩

/-- One version told by a directory can be read. -/
theorem vans_rd {W : World} {o : Option Vr} {e : Ending} {w' : World} (h : VAns W o e w') (hm : ∀ v, o = some v → mayB v.val = true) : RdB W o e w' := by
  obtain ⟨x, rfl, h1, h2, h3⟩ := h
  refine ⟨x, o.isSome, rfl, rfl, h1, ⟨h2.1.is, ?_⟩, h3⟩
  cases o with
  | none =>
    have : x.o.map Fx.fld = [] := congrArg Vr.val h1
    rw [List.map_eq_nil_iff] at this
    rw [this]
    exact ⟨by decide, fun x hx => by cases hx⟩
  | some v =>
    have : x.o.map Fx.fld = v.val := congrArg Vr.val h1
    exact (may_fit (by rw [this]; exact hm v rfl)).1
theorem atV_mem {l : List Vr} {t : Int} {v : Vr} (h : atV l t = some v) : v ∈ l := by
  unfold atV at h
  split at h
  · cases h
  · exact List.mem_of_getElem? h

theorem refused_any (g : Nat) (fl sn t : Int) (W : World) : Calls Tryz.prog 31 #[.pointer (some ⟨g, 0, none⟩), winV fl sn, .int .u64 t] W fun e w' => e = .returned (.int .i64 (if t < fl then 8 else 0)) ∧ Below W.heap.size W w' := by
  have HB : Hid (Below W.heap.size W (W.alloc (.cells #[.int .u64 fl, .int .u64 sn] 36))) := (Below.refl _ _).alloc (Nat.le_refl _) _
  unfold winV
  by_cases h : t < fl
  · rw [if_pos h]
    go_enter Tryz.func31, Tryz.ntmps31
    go_wp2_with fail
    go_ret
    exact ⟨rfl, HB.out⟩
  · rw [if_neg h]
    go_enter Tryz.func31, Tryz.ntmps31
    go_wp2_with fail
    go_ret
    exact ⟨rfl, HB.out⟩
theorem refused_nil (fl sn t : Int) (W : World) : Calls Tryz.prog 31 #[.pointer none, winV fl sn, .int .u64 t] W fun e w' => e = .returned (.int .i64 1) ∧ Below W.heap.size W w' := by
  have HB : Hid (Below W.heap.size W (W.alloc (.cells #[.int .u64 fl, .int .u64 sn] 36))) := (Below.refl _ _).alloc (Nat.le_refl _) _
  unfold winV
  go_enter Tryz.func31, Tryz.ntmps31
  go_wp2_with fail
  go_ret
  exact ⟨rfl, HB.out⟩
theorem popen_any (W : World) (fl sn t : Int) : Calls Tryz.prog 13 #[winV fl sn, .int .u64 t] W fun e w' => e = .returned (.bool (decide (sn < t))) ∧ Below W.heap.size W w' := by
  have HB : Hid (Below W.heap.size W (W.alloc (.cells #[.int .u64 fl, .int .u64 sn] 36))) := (Below.refl _ _).alloc (Nat.le_refl _) _
  unfold winV
  go_enter Tryz.func13, Tryz.ntmps13
  go_wp2_with fail
  go_ret
  exact ⟨rfl, HB.out⟩

/-! ## The closures -/

theorem enters_above : ∀ args w, (callFunc 39 args).run Tryz.prog w = .ok (.enter 39 args) w := enters_of Tryz.func39 (by kernel_rfl) rfl
theorem enters_aboveF : ∀ args w, (callFunc 43 args).run Tryz.prog w = .ok (.enter 43 args) w := enters_of Tryz.func43 (by kernel_rfl) rfl
theorem above_any (x : Vx) (B : Nat) (fl sn : Int) (W : World) (hb : W.heap[B]? = some (.cells #[.int .u64 fl, .int .u64 sn] 36 (0, 0))) : Calls Tryz.prog 39 (#[.agg (encVx x).toArray] ++ #[.pointer (some ⟨B, 0, none⟩)]) W fun e w' => e = .returned (.bool (decide (sn < x.stamp))) ∧ Below W.heap.size W w' := by
  have HB : Hid (Below W.heap.size W (W.alloc (.cells (encVx x).toArray 39))) := (Below.refl _ _).alloc (Nat.le_refl _) _
  have hlt := (Array.getElem?_eq_some_iff.1 hb).1
  have c1 : (W.alloc (.cells (encVx x).toArray 39)).cell? ⟨B, 1, none⟩ = some (.int .u64 sn) := by rw [Lib.cell_of_heap ((HB.out.block B hlt).trans hb)]; rfl
  have c2 : W.cell? ⟨B, 1, none⟩ = some (.int .u64 sn) := by rw [Lib.cell_of_heap hb]; rfl
  clear hb
  obtain ⟨xn, xs, xt, xl, xp, xc, xo⟩ := x
  simp only [encVx, Vx.sl] at *
  show Calls Tryz.prog 39 #[.agg #[.int .i64 xn, .int .u64 xs, .int .i64 xt, .bool xl, .slice xp xo.length xc], .pointer (some ⟨B, 0, none⟩)] W _
  go_enter Tryz.func39, Tryz.ntmps39
  go_wp2_with fail
  go_ret
  exact ⟨rfl, HB.out⟩
theorem aboveF_any (x : Fd) (B : Nat) (fl sn : Int) (W : World) (hb : W.heap[B]? = some (.cells #[.int .u64 fl, .int .u64 sn] 36 (0, 0))) : Calls Tryz.prog 43 (#[.agg (encFd x).toArray] ++ #[.pointer (some ⟨B, 0, none⟩)]) W fun e w' => e = .returned (.bool (decide (sn < x.v.stamp))) ∧ Below W.heap.size W w' := by
  have HB : Hid (Below W.heap.size W (W.alloc (.cells (encFd x).toArray 70))) := (Below.refl _ _).alloc (Nat.le_refl _) _
  have hlt := (Array.getElem?_eq_some_iff.1 hb).1
  have c1 : (W.alloc (.cells (encFd x).toArray 70)).cell? ⟨B, 1, none⟩ = some (.int .u64 sn) := by rw [Lib.cell_of_heap ((HB.out.block B hlt).trans hb)]; rfl
  have c2 : W.cell? ⟨B, 1, none⟩ = some (.int .u64 sn) := by rw [Lib.cell_of_heap hb]; rfl
  clear hb
  obtain ⟨xa, xb, xn, xs, xt, xl, xp, xc, xo⟩ := x
  simp only [encFd, encVx, Vx.sl] at *
  show Calls Tryz.prog 43 #[.agg #[.string xa, .string xb, .int .i64 xn, .int .u64 xs, .int .i64 xt, .bool xl, .slice xp xo.length xc], .pointer (some ⟨B, 0, none⟩)] W _
  go_enter Tryz.func43, Tryz.ntmps43
  go_wp2_with fail
  go_ret
  exact ⟨rfl, HB.out⟩

theorem not_above (sn s : Int) : (!decide (sn < s)) = decide (s ≤ sn) := by
  by_cases h : s ≤ sn
  · rw [decide_eq_true h, decide_eq_false (by omega)]; rfl
  · rw [decide_eq_false h, decide_eq_true (by omega)]; rfl

/-- What History lets by of what was told: only the row has turned. -/
theorem cutV_any (B N : Nat) (fl sn : Int) (u : Value) (o : List Vx) (w : World) (h : KV.Own N w u o) (hl : o.length ≤ 2400000000000) (hv : ∀ x ∈ o, OwnJ N w x.sl x.o ∧ mayB (x.o.map Fx.fld) = true) (hB : B < N) (hb : w.heap[B]? = some (.cells #[.int .u64 fl, .int .u64 sn] 36 (0, 0))) (hN : N ≤ w.heap.size) :
    Calls Tryz.prog 40 #[u, .func (.func 39) #[] #[.pointer (some ⟨B, 0, none⟩)]] w fun e w' =>
      ∃ u' o', e = .returned u' ∧ KV.Own N w' u' o' ∧ (∀ x ∈ o', OwnJ N w' x.sl x.o ∧ mayB (x.o.map Fx.fld) = true) ∧ o'.map Vx.ver = (o.map Vx.ver).filter (fun v => decide (v.stamp ≤ sn)) ∧ Below N w w' := by
  rcases h.2 with ⟨rfl, hz⟩ | ⟨g, cap, cur, rfl, hNg, _⟩
  · obtain rfl := List.length_eq_zero_iff.1 hz
    refine (delfV_nil (fun x => decide (sn < x.stamp)) _ _ enters_above w).mono ?_
    rintro e w' ⟨rfl, hb'⟩
    exact ⟨_, [], rfl, Kind.own_nil _ _ _, (fun x hx => by cases hx), rfl, hb'.mono hN⟩
  · refine (delfV_any (fun x => decide (sn < x.stamp)) _ _ enters_above N g o.length cap o w h hl fun W x hg _ => above_any x B fl sn W ((hg.block B (by omega) (by intro e; injection e with e; omega)).trans hb)).mono ?_
    rintro e w' ⟨m, rfl, h1, h2⟩
    refine ⟨_, _, rfl, h1, fun x hx => ?_, ?_, (Fr.of_grown h2 (P := fun b => b = g) fun k hk => by injection hk with hk; exact hk.symm).below hN fun k hk => by rw [hk]; exact hNg⟩
    · have hx' := hv x (List.mem_filter.1 hx).1
      refine ⟨ownJ_fr hx'.1 (fr_row h2) fun k hk e => ?_, hx'.2⟩
      obtain ⟨c1, t1, h3, h5⟩ := ownJ_cells hx'.1 hk
      obtain ⟨c2, h4⟩ := own_type h (k := k) e
      rw [h3] at h4
      injection h4 with h4
      injection h4 with _ h4 _
      rcases h5 with h5 | h5
      · exact absurd (h5.symm.trans h4) (by decide)
      · exact absurd (h5.symm.trans h4) (by decide)
    · rw [List.filter_map]
      congr 1
      congr 1
      funext x
      exact not_above sn x.stamp
theorem cutF_any (B N : Nat) (fl sn : Int) (u : Value) (o : List Fd) (w : World) (h : KFd.Own N w u o) (hl : o.length ≤ 2400000000000) (hv : ∀ x ∈ o, OwnJ N w x.v.sl x.v.o ∧ mayB (x.v.o.map Fx.fld) = true) (hB : B < N) (hb : w.heap[B]? = some (.cells #[.int .u64 fl, .int .u64 sn] 36 (0, 0))) (hN : N ≤ w.heap.size) :
    Calls Tryz.prog 44 #[u, .func (.func 43) #[] #[.pointer (some ⟨B, 0, none⟩)]] w fun e w' =>
      ∃ u' o', e = .returned u' ∧ KFd.Own N w' u' o' ∧ (∀ x ∈ o', OwnJ N w' x.v.sl x.v.o ∧ mayB (x.v.o.map Fx.fld) = true) ∧ o'.map Fd.fnd = (o.map Fd.fnd).filter (fun v => decide (v.2.stamp ≤ sn)) ∧ Below N w w' := by
  rcases h.2 with ⟨rfl, hz⟩ | ⟨g, cap, cur, rfl, hNg, _⟩
  · obtain rfl := List.length_eq_zero_iff.1 hz
    refine (delfF_nil (fun x => decide (sn < x.v.stamp)) _ _ enters_aboveF w).mono ?_
    rintro e w' ⟨rfl, hb'⟩
    exact ⟨_, [], rfl, Kind.own_nil _ _ _, (fun x hx => by cases hx), rfl, hb'.mono hN⟩
  · refine (delfF_any (fun x => decide (sn < x.v.stamp)) _ _ enters_aboveF N g o.length cap o w h hl fun W x hg _ => aboveF_any x B fl sn W ((hg.block B (by omega) (by intro e; injection e with e; omega)).trans hb)).mono ?_
    rintro e w' ⟨m, rfl, h1, h2⟩
    refine ⟨_, _, rfl, h1, fun x hx => ?_, ?_, (Fr.of_grown h2 (P := fun b => b = g) fun k hk => by injection hk with hk; exact hk.symm).below hN fun k hk => by rw [hk]; exact hNg⟩
    · have hx' := hv x (List.mem_filter.1 hx).1
      refine ⟨ownJ_fr hx'.1 (fr_row h2) fun k hk e => ?_, hx'.2⟩
      obtain ⟨c1, t1, h3, h5⟩ := ownJ_cells hx'.1 hk
      obtain ⟨c2, h4⟩ := own_type h (k := k) e
      rw [h3] at h4
      injection h4 with h4
      injection h4 with _ h4 _
      rcases h5 with h5 | h5
      · exact absurd (h5.symm.trans h4) (by decide)
      · exact absurd (h5.symm.trans h4) (by decide)
    · rw [List.filter_map]
      congr 1
      congr 1
      funext x
      exact not_above sn x.v.stamp

/-! ## Find, History, Since -/

theorem since_lenV (l : List Vr) (t : Int) (p : Vr → Bool) : ((sinceV l t).filter p).length ≤ l.length := by
  refine Nat.le_trans (List.length_filter_le _ _) ?_
  unfold sinceV
  rw [List.length_drop]
  omega

set_option maxHeartbeats 4000000 in
set_option maxRecDepth 100000 in
theorem pfind_any {n0 g n : Nat} {D : List RowD} {W : World} (h : DirS n0 g n D W) (hn : n ≤ 1760000000000) (fl sn t : Int) (typ : ByteArray) (pa : Option Addr) (pc : Nat) (pt : List Tm) (hp : KM.Is W (.slice pa pt.length pc) pt) (hpf : FitM pt) :
    Calls Tryz.prog 14 #[.pointer (some ⟨g, 0, none⟩), winV fl sn, .int .u64 t, .string typ, .slice pa pt.length pc] W fun e w' => NwF W (pastFind D fl sn t typ (matchM pt)) e w' := by
  obtain ⟨hb0, hbx, hs0⟩ := one_box14 W #[.int .u64 fl, .int .u64 sn] 36
  obtain ⟨V, hV⟩ : ∃ V, W.alloc (.cells #[.int .u64 fl, .int .u64 sn] 36) = V := ⟨_, rfl⟩
  obtain ⟨Q, hQ⟩ : ∃ Q, W.heap.size = Q := ⟨_, rfl⟩
  rw [hV] at hb0 hbx hs0
  rw [hQ] at hbx
  have HQQ := hid hQ
  have HD := hid h
  have HRE := hid (refused_any g fl sn t V)
  have a0 : V.cell? ⟨Q, 0, none⟩ = some (.int .u64 fl) := by rw [Lib.cell_of_heap hbx]; rfl
  have a1 : V.cell? ⟨Q, 1, none⟩ = some (.int .u64 sn) := by rw [Lib.cell_of_heap hbx]; rfl
  have HBX := hid hbx
  have HB0 := hid hb0
  have HP := hid hp
  have HPF := hid hpf
  have HS0 := hid hs0
  clear hb0 hbx hs0 h hp hpf
  unfold winV at *
  by_cases hlow : t < fl
  · have HA : Hid (pastFind D fl sn t typ (matchM pt) = ([], 8)) := by show _ = _; unfold pastFind; rw [if_pos hlow]
    rw [HA.out]
    rw [if_pos hlow] at HRE
    go_enter Tryz.func14, Tryz.ntmps14
    go_wp2_with fail
    try rw [hV]
    try rw [hQ]
    go_wp2_with fail
    refine HRE.out.mono ?_
    rintro e w1 ⟨rfl, hb1⟩
    have HB1 : Hid (Below W.heap.size W w1) := bel_then HB0.out HB0.out.size hb1
    clear hb1
    go_wp2_with fail
    go_ret2
    exact ⟨_, [], rfl, Kind.own_nil _ _ _, (fun x hx => by cases hx), rfl, HB1.out⟩
  · have HA : Hid (pastFind D fl sn t typ (matchM pt) = (scanD D typ (min t sn) (matchM pt), 0)) := by show _ = _; unfold pastFind; rw [if_neg hlow]
    rw [HA.out]
    rw [if_neg hlow] at HRE
    go_enter Tryz.func14, Tryz.ntmps14
    go_wp2_with fail
    try rw [hV]
    try rw [hQ]
    go_wp2_with fail
    refine HRE.out.mono ?_
    rintro e w1 ⟨rfl, hb1⟩
    have hbW1 : Below W.heap.size W w1 := bel_then HB0.out HB0.out.size hb1
    have hx1 := (hb1.block Q (by have := HS0.out; have := HQQ.out; omega)).trans HBX.out
    have e1 : w1.cell? ⟨Q, 1, none⟩ = some (.int .u64 sn) := by rw [Lib.cell_of_heap hx1]; rfl
    have HSC := hid (s_scan (HD.out.on hbW1) hn typ (min t sn) pa pc pt (Kind.is_kept HP.out hbW1) HPF.out)
    have HB1 := hid hbW1
    clear hb1 hbW1 hx1 a0 a1
    go_wp2_with fail
    refine HSC.out.mono ?_
    rintro e w2 ⟨u, fs, rfl, q1, q2, q3, q4⟩
    obtain ⟨up, uc, rfl⟩ := Kind.own_shape q1
    have HP2 : Hid (NwF W (scanD D typ (min t sn) (matchM pt), 0) (.returned (.tuple #[.slice up fs.length uc, .int .i64 0])) w2) := ⟨_, fs, rfl, Kind.own_weak q1 HB1.out.size, fun f hf => ⟨own_weakJ (q2 f hf).1 HB1.out.size, (q2 f hf).2⟩, q3, bel_then HB1.out HB1.out.size q4⟩
    clear q1 q2 q3 q4 HSC e1
    go_wp2_with fail
    go_ret2
    exact HP2.out

set_option maxHeartbeats 4000000 in
set_option maxRecDepth 100000 in
theorem phist_any {n0 g n : Nat} {D : List RowD} {W : World} (h : DirS n0 g n D W) (hn : n ≤ 1760000000000) (fl sn : Int) (k : Ky) (s : Int) (hk : FitK k) :
    Calls Tryz.prog 17 #[.pointer (some ⟨g, 0, none⟩), winV fl sn, .agg #[.string k.1, .string k.2], .int .u64 s] W fun e w' => NwVs W (pastHist D fl sn k s) e w' := by
  obtain ⟨hb0, hbx, hbk, hs0⟩ := two_boxes14 W #[.int .u64 fl, .int .u64 sn] #[.string k.1, .string k.2] 36 31
  obtain ⟨V, hV⟩ : ∃ V, (W.alloc (.cells #[.int .u64 fl, .int .u64 sn] 36)).alloc (.cells #[.string k.1, .string k.2] 31) = V := ⟨_, rfl⟩
  obtain ⟨Q, hQ⟩ : ∃ Q, W.heap.size = Q := ⟨_, rfl⟩
  rw [hV] at hb0 hbx hbk hs0
  rw [hQ] at hbx hbk hs0
  have HQQ := hid hQ
  have HD := hid h
  have hcnt : (ofD D k).length ≤ 1760000000000 := by
    have h1 := h.few
    by_cases he : ofD D k = []
    · rw [he]; simp
    · have := seen_some h.ok List.length (seen := [k]) (by simp) (fun x hx => by rw [List.mem_singleton.1 hx]; exact he)
      simp only [List.map_cons, List.map_nil, List.sum_cons, List.sum_nil] at this
      have h2 : (ofD D k).length ≤ countD D := by unfold countD; simpa using this
      omega
  have HRE := hid (refused_any g fl sn s V)
  have a0 : V.cell? ⟨Q, 0, none⟩ = some (.int .u64 fl) := by rw [Lib.cell_of_heap hbx]; rfl
  have a1 : V.cell? ⟨Q, 1, none⟩ = some (.int .u64 sn) := by rw [Lib.cell_of_heap hbx]; rfl
  have HBX := hid hbx
  have HBK := hid hbk
  have HB0 := hid hb0
  have HKF := hid hk
  have HS0 := hid hs0
  clear hb0 hbx hbk hs0 h hk
  unfold winV at *
  by_cases hlow : s < fl
  · have HA : Hid (pastHist D fl sn k s = ([], 8)) := by show _ = _; unfold pastHist; rw [if_pos hlow]
    rw [HA.out]
    rw [if_pos hlow] at HRE
    go_enter Tryz.func17, Tryz.ntmps17
    go_wp2_with fail
    try rw [hV]
    try rw [hQ]
    go_wp2_with fail
    refine HRE.out.mono ?_
    rintro e w1 ⟨rfl, hb1⟩
    have HB1 : Hid (Below W.heap.size W w1) := bel_then HB0.out HB0.out.size hb1
    clear hb1
    go_wp2_with fail
    go_ret2
    exact ⟨_, [], rfl, Kind.own_nil _ _ _, (fun x hx => by cases hx), rfl, HB1.out⟩
  · have HA : Hid (pastHist D fl sn k s = ((sinceV (ofD D k) s).filter (fun v => decide (v.stamp ≤ sn)), 0)) := by show _ = _; unfold pastHist; rw [if_neg hlow]
    rw [HA.out]
    rw [if_neg hlow] at HRE
    go_enter Tryz.func17, Tryz.ntmps17
    go_wp2_with fail
    try rw [hV]
    try rw [hQ]
    go_wp2_with fail
    refine HRE.out.mono ?_
    rintro e w1 ⟨rfl, hb1⟩
    have hbW1 : Below W.heap.size W w1 := bel_then HB0.out HB0.out.size hb1
    have hx1 := (hb1.block Q (by have := HS0.out; omega)).trans HBX.out
    have hk1 := (hb1.block (Q + 1) (by have := HS0.out; omega)).trans HBK.out
    have e1 : w1.cell? ⟨Q + 1, 0, none⟩ = some (.string k.1) := by rw [Lib.cell_of_heap hk1]; rfl
    have e2 : w1.cell? ⟨Q + 1, 1, none⟩ = some (.string k.2) := by rw [Lib.cell_of_heap hk1]; rfl
    have HSC := hid (s_since (HD.out.on hbW1) k HKF.out s)
    have HMY := hid (HD.out.may k)
    have HB1 := hid hbW1
    have HX1 := hid hx1
    have HQ1 : Hid (Q < w1.heap.size) := (Array.getElem?_eq_some_iff.1 hx1).1
    clear hb1 hbW1 hx1 hk1 a0 a1 HD HBX HBK
    go_wp2_with fail
    refine HSC.out.mono ?_
    rintro e w2 ⟨u, o, rfl, q1, q2, _, q3, q4⟩
    obtain ⟨up, uc, rfl⟩ := Kind.own_shape q1
    have hol : o.length ≤ 2400000000000 := by
      have h1 := since_lenV (ofD D k) s fun _ => true
      rw [List.filter_eq_self.2 (fun _ _ => rfl), ← q3, List.length_map] at h1
      omega
    have HCU := hid (cutV_any Q w1.heap.size fl sn _ o w2 q1 hol (fun x hx => ⟨q2 x hx, HMY.out x.ver (since_mem (by rw [← q3]; exact List.mem_map.2 ⟨x, hx, rfl⟩))⟩) HQ1.out ((q4.block Q HQ1.out).trans HX1.out) q4.size)
    rw [q3] at HCU
    have HQ4 := hid q4
    clear q1 q2 q3 q4 HSC e1 e2 hol
    go_wp2_with fail
    refine HCU.out.mono ?_
    rintro e w3 ⟨u', o', rfl, r1, r2, r3, r4⟩
    obtain ⟨vp, vc, rfl⟩ := Kind.own_shape r1
    have HP2 : Hid (NwVs W ((sinceV (ofD D k) s).filter (fun v => decide (v.stamp ≤ sn)), 0) (.returned (.tuple #[.slice vp o'.length vc, .int .i64 0])) w3) := ⟨_, o', rfl, Kind.own_weak r1 HB1.out.size, fun f hf => ⟨own_weakJ (r2 f hf).1 HB1.out.size, (r2 f hf).2⟩, r3, bel_then HB1.out HB1.out.size (HQ4.out.trans r4)⟩
    clear r1 r2 r3 r4 HCU
    go_wp2_with fail
    go_ret2
    exact HP2.out

set_option maxHeartbeats 4000000 in
set_option maxRecDepth 100000 in
theorem psince_any {n0 g n : Nat} {D : List RowD} {W : World} (h : DirS n0 g n D W) (hn : n ≤ 1760000000000) (fl sn : Int) (typ : ByteArray) (s : Int) :
    Calls Tryz.prog 20 #[.pointer (some ⟨g, 0, none⟩), winV fl sn, .string typ, .int .u64 s] W fun e w' => ∃ L, PastSince D fl sn typ s L ∧ NwF W L e w' := by
  obtain ⟨hb0, hbx, hs0⟩ := one_box14 W #[.int .u64 fl, .int .u64 sn] 36
  obtain ⟨V, hV⟩ : ∃ V, W.alloc (.cells #[.int .u64 fl, .int .u64 sn] 36) = V := ⟨_, rfl⟩
  obtain ⟨Q, hQ⟩ : ∃ Q, W.heap.size = Q := ⟨_, rfl⟩
  rw [hV] at hb0 hbx hs0
  rw [hQ] at hbx
  have HQQ := hid hQ
  have HD := hid h
  have HRE := hid (refused_any g fl sn s V)
  have a0 : V.cell? ⟨Q, 0, none⟩ = some (.int .u64 fl) := by rw [Lib.cell_of_heap hbx]; rfl
  have a1 : V.cell? ⟨Q, 1, none⟩ = some (.int .u64 sn) := by rw [Lib.cell_of_heap hbx]; rfl
  have HBX := hid hbx
  have HB0 := hid hb0
  have HS0 := hid hs0
  have hfew := h.few
  have HLEN : Hid (∀ r : List Fnd, r.Perm (sinceD D typ s) → r.length ≤ countD D) := fun r hr => by
    rw [hr.length_eq, ← sinceL_keys h.ok s typ]
    exact sinceL_len h.ok s (keysD_nodup h.ok typ) fun k hk => keysD_there h.ok hk
  clear hb0 hbx hs0 h
  unfold winV at *
  by_cases hlow : s < fl
  · have HA : Hid (PastSince D fl sn typ s ([], 8)) := by show PastSince _ _ _ _ _ _; unfold PastSince; rw [if_pos hlow]
    rw [if_pos hlow] at HRE
    go_enter Tryz.func20, Tryz.ntmps20
    go_wp2_with fail
    try rw [hV]
    try rw [hQ]
    go_wp2_with fail
    refine HRE.out.mono ?_
    rintro e w1 ⟨rfl, hb1⟩
    have HB1 : Hid (Below W.heap.size W w1) := bel_then HB0.out HB0.out.size hb1
    clear hb1
    go_wp2_with fail
    go_ret2
    exact ⟨([], 8), HA.out, _, [], rfl, Kind.own_nil _ _ _, (fun x hx => by cases hx), rfl, HB1.out⟩
  · have HA : Hid (∀ r : List Fnd, r.Perm (sinceD D typ s) → SortN r → PastSince D fl sn typ s (r.filter (fun x => decide (x.2.stamp ≤ sn)), 0)) := fun r h1 h2 => by
      unfold PastSince
      rw [if_neg hlow]
      exact ⟨rfl, r, h1, h2, rfl⟩
    rw [if_neg hlow] at HRE
    go_enter Tryz.func20, Tryz.ntmps20
    go_wp2_with fail
    try rw [hV]
    try rw [hQ]
    go_wp2_with fail
    refine HRE.out.mono ?_
    rintro e w1 ⟨rfl, hb1⟩
    have hbW1 : Below W.heap.size W w1 := bel_then HB0.out HB0.out.size hb1
    have hx1 := (hb1.block Q (by have := HS0.out; have := HQQ.out; omega)).trans HBX.out
    have HSC := hid (s_log (HD.out.on hbW1) hn typ s)
    have HB1 := hid hbW1
    have HX1 := hid hx1
    have HQ1 : Hid (Q < w1.heap.size) := (Array.getElem?_eq_some_iff.1 hx1).1
    clear hb1 hbW1 hx1 a0 a1 HD HBX
    go_wp2_with fail
    refine HSC.out.mono ?_
    rintro e w2 ⟨r, ⟨u, o, rfl, q1, q2, q3, q4⟩, q5, q6⟩
    obtain ⟨up, uc, rfl⟩ := Kind.own_shape q1
    have hol : o.length ≤ 2400000000000 := by
      have h1 := HLEN.out r q5
      rw [← q3, List.length_map] at h1
      omega
    have HCU := hid (cutF_any Q w1.heap.size fl sn _ o w2 q1 hol q2 HQ1.out ((q4.block Q HQ1.out).trans HX1.out) q4.size)
    rw [q3] at HCU
    have HQ4 := hid q4
    have HPS := hid (HA.out r q5 q6)
    clear q1 q2 q3 q4 q5 q6 HSC hol HA
    go_wp2_with fail
    refine HCU.out.mono ?_
    rintro e w3 ⟨u', o', rfl, r1, r2, r3, r4⟩
    obtain ⟨vp, vc, rfl⟩ := Kind.own_shape r1
    have HP2 : Hid (NwF W (r.filter (fun v => decide (v.2.stamp ≤ sn)), 0) (.returned (.tuple #[.slice vp o'.length vc, .int .i64 0])) w3) := ⟨_, o', rfl, Kind.own_weak r1 HB1.out.size, fun f hf => ⟨own_weakJ (r2 f hf).1 HB1.out.size, (r2 f hf).2⟩, r3, bel_then HB1.out HB1.out.size (HQ4.out.trans r4)⟩
    clear r1 r2 r3 r4 HCU
    go_wp2_with fail
    go_ret2
    exact ⟨_, HPS.out, HP2.out⟩

end Go.Proofs.YticfpkodoghnnaaGreat

/-
  Package past as it landed (stage 14): At, Number.
-/
namespace Go.Proofs.YticfpkodoghnnaaGreat
open Go.RowKit Go.Lib

theorem three_boxes14 (w : World) (c1 c2 c3 : Array Value) (t1 t2 t3 : TypeId) : Below w.heap.size w (((w.alloc (.cells c1 t1)).alloc (.cells c2 t2)).alloc (.cells c3 t3)) ∧ (((w.alloc (.cells c1 t1)).alloc (.cells c2 t2)).alloc (.cells c3 t3)).heap[w.heap.size]? = some (.cells c1 t1 (0, 0)) ∧ (((w.alloc (.cells c1 t1)).alloc (.cells c2 t2)).alloc (.cells c3 t3)).heap[w.heap.size + 1]? = some (.cells c2 t2 (0, 0)) ∧ (((w.alloc (.cells c1 t1)).alloc (.cells c2 t2)).alloc (.cells c3 t3)).heap[w.heap.size + 2]? = some (.cells c3 t3 (0, 0)) ∧ (((w.alloc (.cells c1 t1)).alloc (.cells c2 t2)).alloc (.cells c3 t3)).heap.size = w.heap.size + 3 := by
  obtain ⟨h1, h2, h3, h4⟩ := two_boxes14 w c1 c2 t1 t2
  have hb : Below ((w.alloc (.cells c1 t1)).alloc (.cells c2 t2)).heap.size ((w.alloc (.cells c1 t1)).alloc (.cells c2 t2)) (((w.alloc (.cells c1 t1)).alloc (.cells c2 t2)).alloc (.cells c3 t3)) := (Below.refl _ _).alloc (Nat.le_refl _) _
  have h5 := heap_alloc_new ((w.alloc (.cells c1 t1)).alloc (.cells c2 t2)) (.cells c3 t3)
  rw [h4] at h5
  exact ⟨bel_then h1 h1.size hb, (hb.block _ (by omega)).trans h2, (hb.block _ (by omega)).trans h3, h5, by rw [World.size_alloc, h4]⟩

set_option maxHeartbeats 8000000 in
set_option maxRecDepth 100000 in
theorem pat_any {n0 g n : Nat} {D : List RowD} {W : World} (h : DirS n0 g n D W) (fl sn t : Int) (k : Ky) (hk : FitK k) :
    Calls Tryz.prog 10 #[.pointer (some ⟨g, 0, none⟩), winV fl sn, .int .u64 t, .agg #[.string k.1, .string k.2]] W fun e w' => RdV W (pastAt D fl sn t k) e w' := by
  obtain ⟨hb0, h0, h1, h2, hs⟩ := three_boxes14 W #[.int .u64 fl, .int .u64 sn] #[.string k.1, .string k.2] #[.int .i64 0, .int .u64 0, .int .i64 0, .bool false, .slice none 0 0] 36 31 39
  obtain ⟨V, hV⟩ : ∃ V, ((W.alloc (.cells #[.int .u64 fl, .int .u64 sn] 36)).alloc (.cells #[.string k.1, .string k.2] 31)).alloc (.cells #[.int .i64 0, .int .u64 0, .int .i64 0, .bool false, .slice none 0 0] 39) = V := ⟨_, rfl⟩
  obtain ⟨Q, hQ⟩ : ∃ Q, W.heap.size = Q := ⟨_, rfl⟩
  rw [hV] at hb0 h0 h1 h2 hs
  rw [hQ] at h0 h1 h2 hs
  have HV := hid hb0
  have HD := hid h
  have HKF := hid hk
  have HKB : Hid (∀ W', Below V.heap.size V W' → (W'.cell? ⟨Q, 0, none⟩ = some (.int .u64 fl) ∧ W'.cell? ⟨Q, 1, none⟩ = some (.int .u64 sn)) ∧ (W'.cell? ⟨Q + 1, 0, none⟩ = some (.string k.1) ∧ W'.cell? ⟨Q + 1, 1, none⟩ = some (.string k.2)) ∧ W'.heap[Q + 2]? = some (.cells #[.int .i64 0, .int .u64 0, .int .i64 0, .bool false, .slice none 0 0] 39 (0, 0))) := fun W' hW => by
    have e0 := (hW.block Q (by omega)).trans h0
    have e1 := (hW.block (Q + 1) (by omega)).trans h1
    have e2 := (hW.block (Q + 2) (by omega)).trans h2
    exact ⟨⟨by rw [Lib.cell_of_heap e0]; rfl, by rw [Lib.cell_of_heap e0]; rfl⟩, ⟨by rw [Lib.cell_of_heap e1]; rfl, by rw [Lib.cell_of_heap e1]; rfl⟩, e2⟩
  obtain ⟨⟨f0, f1⟩, ⟨a0, a1⟩, _⟩ := HKB.out V (Below.refl _ _)
  have HSZ : Hid (V.heap.size = Q + 3) := hs
  have HQQ : Hid (W.heap.size = Q) := hQ
  have HRE := hid (refused_any g fl sn t V)
  clear h hk h0 h1 h2 hb0 hs
  obtain ⟨ka, kb⟩ := k
  unfold winV at *
  simp only at *
  by_cases hlow : t < fl
  · have HPA2 : Hid (pastAt D fl sn t (ka, kb) = (none, 8)) := by show _ = _; unfold pastAt; rw [if_pos hlow]
    rw [if_pos hlow] at HRE
    generalize pastAt D fl sn t (ka, kb) = PA at *
    go_enter Tryz.func10, Tryz.ntmps10
    go_upto_region 1 with fail
    try rw [hV]
    try rw [hQ]
    go_wp2_with fail
    refine HRE.out.mono ?_
    rintro e W3 ⟨rfl, hb1⟩
    obtain ⟨_, _, h2⟩ := HKB.out W3 hb1
    have HB3 : Hid (Below W.heap.size W W3) := bel_then HV.out HV.out.size hb1
    clear hb1 a0 a1 f0 f1 HRE HKB
    obtain ⟨WZ, hWZ⟩ : ∃ WZ, (((((W3.setCell ⟨Q + 2, 0, none⟩ (.int .i64 0)).setCell ⟨Q + 2, 1, none⟩ (.int .u64 0)).setCell ⟨Q + 2, 2, none⟩ (.int .i64 0)).setCell ⟨Q + 2, 3, none⟩ (.bool false)).setCell ⟨Q + 2, 4, none⟩ (.slice none 0 0)) = WZ := ⟨_, rfl⟩
    have hbz : WZ.heap[Q + 2]? = some (.cells #[.int .i64 0, .int .u64 0, .int .i64 0, .bool false, .slice none 0 0] 39 (0, 0)) := by
      rw [← hWZ]
      exact heap_setCell_same _ (Q + 2) 4 _ _ _ (heap_setCell_same _ (Q + 2) 3 _ _ _ (heap_setCell_same _ (Q + 2) 2 _ _ _ (heap_setCell_same _ (Q + 2) 1 _ _ _ (heap_setCell_same _ (Q + 2) 0 _ _ _ (h2)))))
    have fz : Fr (fun b => b = Q + 2) W3 WZ := by
      rw [← hWZ]
      exact (((((fr_set14 W3 (Q + 2) 0 _).then (fr_set14 _ (Q + 2) 1 _) fun k hk => Or.inl hk).then (fr_set14 _ (Q + 2) 2 _) fun k hk => Or.inl hk).then (fr_set14 _ (Q + 2) 3 _) fun k hk => Or.inl hk).then (fr_set14 _ (Q + 2) 4 _) fun k hk => Or.inl hk)
    have HFIN : Hid (RdV W PA (.returned (.tuple #[.agg #[.int .i64 0, .int .u64 0, .int .i64 0, .bool false, .slice none 0 0], .int .i64 8])) WZ) := by
      show RdV W PA _ _; rw [HPA2.out]; refine ⟨zeroVx, rfl, rfl, ⟨is_setV (zero_rd W3).1 h2 fz, (zero_rd W3).2⟩, ?_⟩
      have q := HB3.out
      exact q.trans (fz.below q.size fun k hk => by have := HSZ.out; have := HQQ.out; omega)
    have y0 : W3.cell? ⟨Q + 2, 0, none⟩ = some (.int .i64 0) := by rw [Lib.cell_of_heap h2]; rfl
    have z0 : W3.frozen? ⟨Q + 2, 0, none⟩ = false := Lib.frozen_of_heap h2 0
    have y1 : W3.cell? ⟨Q + 2, 1, none⟩ = some (.int .u64 0) := by rw [Lib.cell_of_heap h2]; rfl
    have z1 : W3.frozen? ⟨Q + 2, 1, none⟩ = false := Lib.frozen_of_heap h2 1
    have y2 : W3.cell? ⟨Q + 2, 2, none⟩ = some (.int .i64 0) := by rw [Lib.cell_of_heap h2]; rfl
    have z2 : W3.frozen? ⟨Q + 2, 2, none⟩ = false := Lib.frozen_of_heap h2 2
    have y3 : W3.cell? ⟨Q + 2, 3, none⟩ = some (.bool false) := by rw [Lib.cell_of_heap h2]; rfl
    have z3 : W3.frozen? ⟨Q + 2, 3, none⟩ = false := Lib.frozen_of_heap h2 3
    have y4 : W3.cell? ⟨Q + 2, 4, none⟩ = some (.slice none 0 0) := by rw [Lib.cell_of_heap h2]; rfl
    have z4 : W3.frozen? ⟨Q + 2, 4, none⟩ = false := Lib.frozen_of_heap h2 4
    have g0 : WZ.cell? ⟨Q + 2, 0, none⟩ = some (.int .i64 0) := by rw [Lib.cell_of_heap hbz]; rfl
    have g1 : WZ.cell? ⟨Q + 2, 1, none⟩ = some (.int .u64 0) := by rw [Lib.cell_of_heap hbz]; rfl
    have g2 : WZ.cell? ⟨Q + 2, 2, none⟩ = some (.int .i64 0) := by rw [Lib.cell_of_heap hbz]; rfl
    have g3 : WZ.cell? ⟨Q + 2, 3, none⟩ = some (.bool false) := by rw [Lib.cell_of_heap hbz]; rfl
    have g4 : WZ.cell? ⟨Q + 2, 4, none⟩ = some (.slice none 0 0) := by rw [Lib.cell_of_heap hbz]; rfl
    clear hbz fz
    go_wp2_with fail
    try rw [hWZ]
    exact bodyPost_ret (v := .tuple #[.agg #[.int .i64 0, .int .u64 0, .int .i64 0, .bool false, .slice none 0 0], .int .i64 8]) (by simp [results, Tryz.results10, go_sem, g0, g1, g2, g3, g4]) rfl HFIN.out
  · have HA : Hid (∀ o, atV (ofD D (ka, kb)) (min t sn) = o → pastAt D fl sn t (ka, kb) = match o with | some v => (some v, 0) | none => (none, 6)) := fun o ho => by
      unfold pastAt
      rw [if_neg hlow, ho]
      rfl
    rw [if_neg hlow] at HRE
    generalize pastAt D fl sn t (ka, kb) = PA at *
    go_enter Tryz.func10, Tryz.ntmps10
    go_upto_region 1 with fail
    try rw [hV]
    try rw [hQ]
    go_wp2_with fail
    refine HRE.out.mono ?_
    rintro e w1 ⟨rfl, hb1⟩
    obtain ⟨⟨f0', f1'⟩, ⟨a0', a1'⟩, h2'⟩ := HKB.out w1 hb1
    clear f0 f1 a0 a1
    have hbW1 : Below W.heap.size W w1 := bel_then HV.out HV.out.size hb1
    have HAT : Hid (Calls Tryz.prog 32 #[.pointer (some ⟨g, 0, none⟩), .agg #[.string ka, .string kb], .int .u64 (min t sn)] w1 fun e w' => RdB w1 (atV (ofD D (ka, kb)) (min t sn)) e w') := (s_at (HD.out.on hbW1) (ka, kb) HKF.out (min t sn)).mono fun e w' hv => vans_rd hv fun v hv' => HD.out.may (ka, kb) v (atV_mem hv')
    have HB1 := hid hb1
    clear hb1 hbW1 h2' HRE HD
    generalize atV (ofD D (ka, kb)) (min t sn) = o at *
    go_wp2_with fail
    refine HAT.out.mono ?_
    rintro e w2 ⟨x, b, rfl, hbo, hxv, hxr, hb2⟩
    obtain ⟨X, hX⟩ : ∃ X, w2.heap.size = X := ⟨_, rfl⟩
    obtain ⟨W3, hW3⟩ : ∃ W3, w2.alloc (.cells (encVx x).toArray 39) = W3 := ⟨_, rfl⟩
    have hal : Below w2.heap.size w2 W3 := by rw [← hW3]; exact (Below.refl _ _).alloc (Nat.le_refl _) _
    have hxb : W3.heap[X]? = some (.cells (encVx x).toArray 39 (0, 0)) := by rw [← hW3, ← hX]; exact heap_alloc_new w2 _
    have hb3 : Below V.heap.size V W3 := bel_then HB1.out HB1.out.size (bel_then hb2 hb2.size hal)
    obtain ⟨_, _, h2⟩ := HKB.out W3 hb3
    have HB3 : Hid (Below W.heap.size W W3) := bel_then HV.out HV.out.size hb3
    have HXR := hid (vat_on hxr hal)
    have HXV := hid hxv
    have HPA := hid (HA.out o rfl)
    clear hxv hxr hb2 hal hb3 HAT HA HB1 HV HKB f0' f1' a0' a1'
    cases o with
    | none =>
      obtain rfl : b = false := hbo
      have HPA2 : Hid (PA = (none, 6)) := HPA.out
      clear HPA HXR HXV hxb
      obtain ⟨xn, xs, xt, xl, xp, xc, xo⟩ := x
      simp only [encVx, Vx.sl] at *
      obtain ⟨WZ, hWZ⟩ : ∃ WZ, (((((W3.setCell ⟨Q + 2, 0, none⟩ (.int .i64 0)).setCell ⟨Q + 2, 1, none⟩ (.int .u64 0)).setCell ⟨Q + 2, 2, none⟩ (.int .i64 0)).setCell ⟨Q + 2, 3, none⟩ (.bool false)).setCell ⟨Q + 2, 4, none⟩ (.slice none 0 0)) = WZ := ⟨_, rfl⟩
      have hbz : WZ.heap[Q + 2]? = some (.cells #[.int .i64 0, .int .u64 0, .int .i64 0, .bool false, .slice none 0 0] 39 (0, 0)) := by
        rw [← hWZ]
        exact heap_setCell_same _ (Q + 2) 4 _ _ _ (heap_setCell_same _ (Q + 2) 3 _ _ _ (heap_setCell_same _ (Q + 2) 2 _ _ _ (heap_setCell_same _ (Q + 2) 1 _ _ _ (heap_setCell_same _ (Q + 2) 0 _ _ _ (h2)))))
      have fz : Fr (fun b => b = Q + 2) W3 WZ := by
        rw [← hWZ]
        exact (((((fr_set14 W3 (Q + 2) 0 _).then (fr_set14 _ (Q + 2) 1 _) fun k hk => Or.inl hk).then (fr_set14 _ (Q + 2) 2 _) fun k hk => Or.inl hk).then (fr_set14 _ (Q + 2) 3 _) fun k hk => Or.inl hk).then (fr_set14 _ (Q + 2) 4 _) fun k hk => Or.inl hk)
      have HFIN : Hid (RdV W PA (.returned (.tuple #[.agg #[.int .i64 0, .int .u64 0, .int .i64 0, .bool false, .slice none 0 0], .int .i64 6])) WZ) := by
        show RdV W PA _ _; rw [HPA2.out]; refine ⟨zeroVx, rfl, rfl, ⟨is_setV (zero_rd W3).1 h2 fz, (zero_rd W3).2⟩, ?_⟩
        have q := HB3.out
        exact q.trans (fz.below q.size fun k hk => by have := HSZ.out; have := HQQ.out; omega)
      have y0 : W3.cell? ⟨Q + 2, 0, none⟩ = some (.int .i64 0) := by rw [Lib.cell_of_heap h2]; rfl
      have z0 : W3.frozen? ⟨Q + 2, 0, none⟩ = false := Lib.frozen_of_heap h2 0
      have y1 : W3.cell? ⟨Q + 2, 1, none⟩ = some (.int .u64 0) := by rw [Lib.cell_of_heap h2]; rfl
      have z1 : W3.frozen? ⟨Q + 2, 1, none⟩ = false := Lib.frozen_of_heap h2 1
      have y2 : W3.cell? ⟨Q + 2, 2, none⟩ = some (.int .i64 0) := by rw [Lib.cell_of_heap h2]; rfl
      have z2 : W3.frozen? ⟨Q + 2, 2, none⟩ = false := Lib.frozen_of_heap h2 2
      have y3 : W3.cell? ⟨Q + 2, 3, none⟩ = some (.bool false) := by rw [Lib.cell_of_heap h2]; rfl
      have z3 : W3.frozen? ⟨Q + 2, 3, none⟩ = false := Lib.frozen_of_heap h2 3
      have y4 : W3.cell? ⟨Q + 2, 4, none⟩ = some (.slice none 0 0) := by rw [Lib.cell_of_heap h2]; rfl
      have z4 : W3.frozen? ⟨Q + 2, 4, none⟩ = false := Lib.frozen_of_heap h2 4
      have g0 : WZ.cell? ⟨Q + 2, 0, none⟩ = some (.int .i64 0) := by rw [Lib.cell_of_heap hbz]; rfl
      have g1 : WZ.cell? ⟨Q + 2, 1, none⟩ = some (.int .u64 0) := by rw [Lib.cell_of_heap hbz]; rfl
      have g2 : WZ.cell? ⟨Q + 2, 2, none⟩ = some (.int .i64 0) := by rw [Lib.cell_of_heap hbz]; rfl
      have g3 : WZ.cell? ⟨Q + 2, 3, none⟩ = some (.bool false) := by rw [Lib.cell_of_heap hbz]; rfl
      have g4 : WZ.cell? ⟨Q + 2, 4, none⟩ = some (.slice none 0 0) := by rw [Lib.cell_of_heap hbz]; rfl
      clear hbz fz
      go_upto_region 5 with fail
      try rw [hX]
      try rw [hW3]
      go_wp2_with fail
      try rw [hWZ]
      exact bodyPost_ret (v := .tuple #[.agg #[.int .i64 0, .int .u64 0, .int .i64 0, .bool false, .slice none 0 0], .int .i64 6]) (by simp [results, Tryz.results10, go_sem, g0, g1, g2, g3, g4]) rfl HFIN.out
    | some v0 =>
      obtain rfl : b = true := hbo
      have HPA2 : Hid (PA = (some v0, 0)) := HPA.out
      clear HPA
      obtain ⟨xn, xs, xt, xl, xp, xc, xo⟩ := x
      simp only [encVx, Vx.sl] at *
      have d0 : W3.cell? ⟨X, 0, none⟩ = some (.int .i64 xn) := by rw [Lib.cell_of_heap hxb]; rfl
      have d1 : W3.cell? ⟨X, 1, none⟩ = some (.int .u64 xs) := by rw [Lib.cell_of_heap hxb]; rfl
      have d2 : W3.cell? ⟨X, 2, none⟩ = some (.int .i64 xt) := by rw [Lib.cell_of_heap hxb]; rfl
      have d3 : W3.cell? ⟨X, 3, none⟩ = some (.bool xl) := by rw [Lib.cell_of_heap hxb]; rfl
      have d4 : W3.cell? ⟨X, 4, none⟩ = some (.slice xp xo.length xc) := by rw [Lib.cell_of_heap hxb]; rfl
      obtain ⟨WZ, hWZ⟩ : ∃ WZ, (((((W3.setCell ⟨Q + 2, 0, none⟩ (.int .i64 xn)).setCell ⟨Q + 2, 1, none⟩ (.int .u64 xs)).setCell ⟨Q + 2, 2, none⟩ (.int .i64 xt)).setCell ⟨Q + 2, 3, none⟩ (.bool xl)).setCell ⟨Q + 2, 4, none⟩ (.slice xp xo.length xc)) = WZ := ⟨_, rfl⟩
      have hbz : WZ.heap[Q + 2]? = some (.cells #[.int .i64 xn, .int .u64 xs, .int .i64 xt, .bool xl, .slice xp xo.length xc] 39 (0, 0)) := by
        rw [← hWZ]
        exact heap_setCell_same _ (Q + 2) 4 _ _ _ (heap_setCell_same _ (Q + 2) 3 _ _ _ (heap_setCell_same _ (Q + 2) 2 _ _ _ (heap_setCell_same _ (Q + 2) 1 _ _ _ (heap_setCell_same _ (Q + 2) 0 _ _ _ (h2)))))
      have fz : Fr (fun b => b = Q + 2) W3 WZ := by
        rw [← hWZ]
        exact (((((fr_set14 W3 (Q + 2) 0 _).then (fr_set14 _ (Q + 2) 1 _) fun k hk => Or.inl hk).then (fr_set14 _ (Q + 2) 2 _) fun k hk => Or.inl hk).then (fr_set14 _ (Q + 2) 3 _) fun k hk => Or.inl hk).then (fr_set14 _ (Q + 2) 4 _) fun k hk => Or.inl hk)
      have HFIN : Hid (RdV W PA (.returned (.tuple #[.agg #[.int .i64 xn, .int .u64 xs, .int .i64 xt, .bool xl, .slice xp xo.length xc], .int .i64 0])) WZ) := by
        show RdV W PA _ _; rw [HPA2.out]; refine ⟨⟨xn, xs, xt, xl, xp, xc, xo⟩, rfl, HXV.out, ⟨is_setV (HXR.out).1 h2 fz, (HXR.out).2⟩, ?_⟩
        have q := HB3.out
        exact q.trans (fz.below q.size fun k hk => by have := HSZ.out; have := HQQ.out; omega)
      have y0 : W3.cell? ⟨Q + 2, 0, none⟩ = some (.int .i64 0) := by rw [Lib.cell_of_heap h2]; rfl
      have z0 : W3.frozen? ⟨Q + 2, 0, none⟩ = false := Lib.frozen_of_heap h2 0
      have y1 : W3.cell? ⟨Q + 2, 1, none⟩ = some (.int .u64 0) := by rw [Lib.cell_of_heap h2]; rfl
      have z1 : W3.frozen? ⟨Q + 2, 1, none⟩ = false := Lib.frozen_of_heap h2 1
      have y2 : W3.cell? ⟨Q + 2, 2, none⟩ = some (.int .i64 0) := by rw [Lib.cell_of_heap h2]; rfl
      have z2 : W3.frozen? ⟨Q + 2, 2, none⟩ = false := Lib.frozen_of_heap h2 2
      have y3 : W3.cell? ⟨Q + 2, 3, none⟩ = some (.bool false) := by rw [Lib.cell_of_heap h2]; rfl
      have z3 : W3.frozen? ⟨Q + 2, 3, none⟩ = false := Lib.frozen_of_heap h2 3
      have y4 : W3.cell? ⟨Q + 2, 4, none⟩ = some (.slice none 0 0) := by rw [Lib.cell_of_heap h2]; rfl
      have z4 : W3.frozen? ⟨Q + 2, 4, none⟩ = false := Lib.frozen_of_heap h2 4
      have g0 : WZ.cell? ⟨Q + 2, 0, none⟩ = some (.int .i64 xn) := by rw [Lib.cell_of_heap hbz]; rfl
      have g1 : WZ.cell? ⟨Q + 2, 1, none⟩ = some (.int .u64 xs) := by rw [Lib.cell_of_heap hbz]; rfl
      have g2 : WZ.cell? ⟨Q + 2, 2, none⟩ = some (.int .i64 xt) := by rw [Lib.cell_of_heap hbz]; rfl
      have g3 : WZ.cell? ⟨Q + 2, 3, none⟩ = some (.bool xl) := by rw [Lib.cell_of_heap hbz]; rfl
      have g4 : WZ.cell? ⟨Q + 2, 4, none⟩ = some (.slice xp xo.length xc) := by rw [Lib.cell_of_heap hbz]; rfl
      clear hbz fz hxb
      go_upto_region 5 with fail
      try rw [hX]
      try rw [hW3]
      go_wp2_with fail
      try rw [hWZ]
      exact bodyPost_ret (v := .tuple #[.agg #[.int .i64 xn, .int .u64 xs, .int .i64 xt, .bool xl, .slice xp xo.length xc], .int .i64 0]) (by simp [results, Tryz.results10, go_sem, g0, g1, g2, g3, g4]) rfl HFIN.out

set_option maxHeartbeats 8000000 in
set_option maxRecDepth 100000 in
theorem pnum_any {n0 g n : Nat} {D : List RowD} {W : World} (h : DirS n0 g n D W) (hn : n ≤ 1760000000000) (fl sn : Int) (k : Ky) (hk : FitK k) (i : Int) (hi : i ≤ 9223372036854775807) :
    Calls Tryz.prog 22 #[.pointer (some ⟨g, 0, none⟩), winV fl sn, .agg #[.string k.1, .string k.2], .int .i64 i] W fun e w' => RdV W (pastNum (ofD D k) sn i) e w' := by
  obtain ⟨hb0, h0, h1, h2, hs⟩ := three_boxes14 W #[.int .u64 fl, .int .u64 sn] #[.string k.1, .string k.2] #[.int .i64 0, .int .u64 0, .int .i64 0, .bool false, .slice none 0 0] 36 31 39
  obtain ⟨V, hV⟩ : ∃ V, ((W.alloc (.cells #[.int .u64 fl, .int .u64 sn] 36)).alloc (.cells #[.string k.1, .string k.2] 31)).alloc (.cells #[.int .i64 0, .int .u64 0, .int .i64 0, .bool false, .slice none 0 0] 39) = V := ⟨_, rfl⟩
  obtain ⟨Q, hQ⟩ : ∃ Q, W.heap.size = Q := ⟨_, rfl⟩
  rw [hV] at hb0 h0 h1 h2 hs
  rw [hQ] at h0 h1 h2 hs
  have HV := hid hb0
  have HD := hid h
  have HKF := hid hk
  have HKB : Hid (∀ W', Below V.heap.size V W' → (W'.cell? ⟨Q, 0, none⟩ = some (.int .u64 fl) ∧ W'.cell? ⟨Q, 1, none⟩ = some (.int .u64 sn)) ∧ (W'.cell? ⟨Q + 1, 0, none⟩ = some (.string k.1) ∧ W'.cell? ⟨Q + 1, 1, none⟩ = some (.string k.2)) ∧ W'.heap[Q + 2]? = some (.cells #[.int .i64 0, .int .u64 0, .int .i64 0, .bool false, .slice none 0 0] 39 (0, 0))) := fun W' hW => by
    have e0 := (hW.block Q (by omega)).trans h0
    have e1 := (hW.block (Q + 1) (by omega)).trans h1
    have e2 := (hW.block (Q + 2) (by omega)).trans h2
    exact ⟨⟨by rw [Lib.cell_of_heap e0]; rfl, by rw [Lib.cell_of_heap e0]; rfl⟩, ⟨by rw [Lib.cell_of_heap e1]; rfl, by rw [Lib.cell_of_heap e1]; rfl⟩, e2⟩
  obtain ⟨⟨f0, f1⟩, ⟨a0, a1⟩, _⟩ := HKB.out V (Below.refl _ _)
  have HSZ : Hid (V.heap.size = Q + 3) := hs
  have HQQ : Hid (W.heap.size = Q) := hQ
  have HRB := hid h2
  clear h hk h0 h1 hb0 hs
  obtain ⟨ka, kb⟩ := k
  unfold winV at *
  simp only at *
  by_cases hn1 : i < 1
  · have HPA2 : Hid (pastNum (ofD D (ka, kb)) sn i = (none, 1)) := by show _ = _; unfold pastNum; rw [if_pos hn1]
    generalize pastNum (ofD D (ka, kb)) sn i = PA at *
    clear a0 a1 f0 f1 HRB HKB
    obtain ⟨WZ, hWZ⟩ : ∃ WZ, (((((V.setCell ⟨Q + 2, 0, none⟩ (.int .i64 0)).setCell ⟨Q + 2, 1, none⟩ (.int .u64 0)).setCell ⟨Q + 2, 2, none⟩ (.int .i64 0)).setCell ⟨Q + 2, 3, none⟩ (.bool false)).setCell ⟨Q + 2, 4, none⟩ (.slice none 0 0)) = WZ := ⟨_, rfl⟩
    have hbz : WZ.heap[Q + 2]? = some (.cells #[.int .i64 0, .int .u64 0, .int .i64 0, .bool false, .slice none 0 0] 39 (0, 0)) := by
      rw [← hWZ]
      exact heap_setCell_same _ (Q + 2) 4 _ _ _ (heap_setCell_same _ (Q + 2) 3 _ _ _ (heap_setCell_same _ (Q + 2) 2 _ _ _ (heap_setCell_same _ (Q + 2) 1 _ _ _ (heap_setCell_same _ (Q + 2) 0 _ _ _ (h2)))))
    have fz : Fr (fun b => b = Q + 2) V WZ := by
      rw [← hWZ]
      exact (((((fr_set14 V (Q + 2) 0 _).then (fr_set14 _ (Q + 2) 1 _) fun k hk => Or.inl hk).then (fr_set14 _ (Q + 2) 2 _) fun k hk => Or.inl hk).then (fr_set14 _ (Q + 2) 3 _) fun k hk => Or.inl hk).then (fr_set14 _ (Q + 2) 4 _) fun k hk => Or.inl hk)
    have HFIN : Hid (RdV W PA (.returned (.tuple #[.agg #[.int .i64 0, .int .u64 0, .int .i64 0, .bool false, .slice none 0 0], .int .i64 1])) WZ) := by
      show RdV W PA _ _; rw [HPA2.out]; refine ⟨zeroVx, rfl, rfl, ⟨is_setV (zero_rd V).1 h2 fz, (zero_rd V).2⟩, ?_⟩
      have q := HV.out
      exact q.trans (fz.below q.size fun k hk => by have := HSZ.out; have := HQQ.out; omega)
    have y0 : V.cell? ⟨Q + 2, 0, none⟩ = some (.int .i64 0) := by rw [Lib.cell_of_heap h2]; rfl
    have z0 : V.frozen? ⟨Q + 2, 0, none⟩ = false := Lib.frozen_of_heap h2 0
    have y1 : V.cell? ⟨Q + 2, 1, none⟩ = some (.int .u64 0) := by rw [Lib.cell_of_heap h2]; rfl
    have z1 : V.frozen? ⟨Q + 2, 1, none⟩ = false := Lib.frozen_of_heap h2 1
    have y2 : V.cell? ⟨Q + 2, 2, none⟩ = some (.int .i64 0) := by rw [Lib.cell_of_heap h2]; rfl
    have z2 : V.frozen? ⟨Q + 2, 2, none⟩ = false := Lib.frozen_of_heap h2 2
    have y3 : V.cell? ⟨Q + 2, 3, none⟩ = some (.bool false) := by rw [Lib.cell_of_heap h2]; rfl
    have z3 : V.frozen? ⟨Q + 2, 3, none⟩ = false := Lib.frozen_of_heap h2 3
    have y4 : V.cell? ⟨Q + 2, 4, none⟩ = some (.slice none 0 0) := by rw [Lib.cell_of_heap h2]; rfl
    have z4 : V.frozen? ⟨Q + 2, 4, none⟩ = false := Lib.frozen_of_heap h2 4
    have g0 : WZ.cell? ⟨Q + 2, 0, none⟩ = some (.int .i64 0) := by rw [Lib.cell_of_heap hbz]; rfl
    have g1 : WZ.cell? ⟨Q + 2, 1, none⟩ = some (.int .u64 0) := by rw [Lib.cell_of_heap hbz]; rfl
    have g2 : WZ.cell? ⟨Q + 2, 2, none⟩ = some (.int .i64 0) := by rw [Lib.cell_of_heap hbz]; rfl
    have g3 : WZ.cell? ⟨Q + 2, 3, none⟩ = some (.bool false) := by rw [Lib.cell_of_heap hbz]; rfl
    have g4 : WZ.cell? ⟨Q + 2, 4, none⟩ = some (.slice none 0 0) := by rw [Lib.cell_of_heap hbz]; rfl
    clear hbz fz
    go_enter Tryz.func22, Tryz.ntmps22
    go_upto_region 1 with fail
    try rw [hV]
    try rw [hQ]
    go_wp2_with fail
    try rw [hWZ]
    exact bodyPost_ret (v := .tuple #[.agg #[.int .i64 0, .int .u64 0, .int .i64 0, .bool false, .slice none 0 0], .int .i64 1]) (by simp [results, Tryz.results22, go_sem, g0, g1, g2, g3, g4]) rfl HFIN.out
  · have HA : Hid (∀ o, numV (ofD D (ka, kb)) i = o → pastNum (ofD D (ka, kb)) sn i = match o with | some v => (if v.stamp ≤ sn then (some v, 0) else (none, pastTail (ofD D (ka, kb)) i)) | none => (none, pastTail (ofD D (ka, kb)) i)) := fun o ho => by
      unfold pastNum
      rw [if_neg hn1, ho]
      rfl
    have HTL : Hid (∀ f, (ofD D (ka, kb)).head? = f → pastTail (ofD D (ka, kb)) i = match f with | some f => if i < f.num then 8 else 6 | none => 6) := fun f hf => by
      unfold pastTail
      rw [hf]
      rfl
    have HNU : Hid (∀ W', Below W.heap.size W W' → Calls Tryz.prog 47 #[.pointer (some ⟨g, 0, none⟩), .agg #[.string ka, .string kb], .int .i64 i] W' fun e w' => RdB W' (numV (ofD D (ka, kb)) i) e w') := fun W' hW => (s_number (HD.out.on hW) (ka, kb) HKF.out i hi).mono fun e w' hv => vans_rd hv fun v hv' => HD.out.may (ka, kb) v (numV_mem hv').1
    have HFI : Hid (∀ W', Below W.heap.size W W' → Calls Tryz.prog 48 #[.pointer (some ⟨g, 0, none⟩), .agg #[.string ka, .string kb]] W' fun e w' => RdB W' (ofD D (ka, kb)).head? e w') := fun W' hW => (s_first (HD.out.on hW) (by omega) (ka, kb) HKF.out).mono fun e w' hv => vans_rd hv fun v hv' => HD.out.may (ka, kb) v (List.mem_of_head? hv')
    generalize pastNum (ofD D (ka, kb)) sn i = PA at *
    generalize numV (ofD D (ka, kb)) i = o at *
    generalize pastTail (ofD D (ka, kb)) i = PT at *
    generalize (ofD D (ka, kb)).head? = F0 at *
    have HNV := hid (HNU.out V HV.out)
    clear h2 HNU
    go_enter Tryz.func22, Tryz.ntmps22
    go_upto_region 1 with fail
    try rw [hV]
    try rw [hQ]
    go_wp2_with fail
    clear a0 a1 f0 f1 hV
    refine HNV.out.mono ?_
    rintro e w2 ⟨x, b, rfl, hbo, hxv, hxr, hb2⟩
    obtain ⟨X, hX⟩ : ∃ X, w2.heap.size = X := ⟨_, rfl⟩
    obtain ⟨W3, hW3⟩ : ∃ W3, w2.alloc (.cells (encVx x).toArray 39) = W3 := ⟨_, rfl⟩
    have hal : Below w2.heap.size w2 W3 := by rw [← hW3]; exact (Below.refl _ _).alloc (Nat.le_refl _) _
    have hxb : W3.heap[X]? = some (.cells (encVx x).toArray 39 (0, 0)) := by rw [← hW3, ← hX]; exact heap_alloc_new w2 _
    have hb3 : Below V.heap.size V W3 := bel_then hb2 hb2.size hal
    obtain ⟨⟨f0, f1⟩, ⟨a0, a1⟩, h2⟩ := HKB.out W3 hb3
    have HH2 := hid h2
    have HBV3 := hid hb3
    have HB3 : Hid (Below W.heap.size W W3) := bel_then HV.out HV.out.size hb3
    have HXR := hid (vat_on hxr hal)
    have HXV := hid hxv
    have HPA := hid (HA.out o rfl)
    have HPT := hid (HTL.out F0 rfl)
    have HF3 := hid (HFI.out W3 HB3.out)
    clear hxv hxr hb2 hal hb3 HNV HA HTL HFI
    /- the rest where no version is told -/
    have hcase : (∃ v0, o = some v0 ∧ v0.stamp ≤ sn) ∨ (PA = (none, PT) ∧ (b = false ∨ (b = true ∧ ¬ x.stamp ≤ sn))) := by
      cases o with
      | none => exact Or.inr ⟨HPA.out, Or.inl hbo⟩
      | some v0 =>
        have hxs : x.stamp = v0.stamp := congrArg Vr.stamp HXV.out
        by_cases hv : v0.stamp ≤ sn
        · exact Or.inl ⟨v0, rfl, hv⟩
        · refine Or.inr ⟨?_, Or.inr ⟨hbo, by rw [hxs]; exact hv⟩⟩
          have := HPA.out
          simp only at this
          rw [if_neg hv] at this
          exact this
    obtain ⟨xn, xs, xt, xl, xp, xc, xo⟩ := x
    simp only [encVx, Vx.sl] at *
    have d0 : W3.cell? ⟨X, 0, none⟩ = some (.int .i64 xn) := by rw [Lib.cell_of_heap hxb]; rfl
    have d1 : W3.cell? ⟨X, 1, none⟩ = some (.int .u64 xs) := by rw [Lib.cell_of_heap hxb]; rfl
    have d2 : W3.cell? ⟨X, 2, none⟩ = some (.int .i64 xt) := by rw [Lib.cell_of_heap hxb]; rfl
    have d3 : W3.cell? ⟨X, 3, none⟩ = some (.bool xl) := by rw [Lib.cell_of_heap hxb]; rfl
    have d4 : W3.cell? ⟨X, 4, none⟩ = some (.slice xp xo.length xc) := by rw [Lib.cell_of_heap hxb]; rfl
    rcases hcase with ⟨v0, rfl, hv⟩ | ⟨hpa, hbs⟩
    · obtain rfl : b = true := hbo
      have hxs : xs ≤ sn := by
        have e : xs = v0.stamp := congrArg Vr.stamp HXV.out
        rw [e]; exact hv
      have HPA2 : Hid (PA = (some v0, 0)) := by
        have := HPA.out
        simp only at this
        rw [if_pos hv] at this
        exact this
      clear HPA HPT HF3 hv a0 a1
      obtain ⟨WZ, hWZ⟩ : ∃ WZ, (((((W3.setCell ⟨Q + 2, 0, none⟩ (.int .i64 xn)).setCell ⟨Q + 2, 1, none⟩ (.int .u64 xs)).setCell ⟨Q + 2, 2, none⟩ (.int .i64 xt)).setCell ⟨Q + 2, 3, none⟩ (.bool xl)).setCell ⟨Q + 2, 4, none⟩ (.slice xp xo.length xc)) = WZ := ⟨_, rfl⟩
      have hbz : WZ.heap[Q + 2]? = some (.cells #[.int .i64 xn, .int .u64 xs, .int .i64 xt, .bool xl, .slice xp xo.length xc] 39 (0, 0)) := by
        rw [← hWZ]
        exact heap_setCell_same _ (Q + 2) 4 _ _ _ (heap_setCell_same _ (Q + 2) 3 _ _ _ (heap_setCell_same _ (Q + 2) 2 _ _ _ (heap_setCell_same _ (Q + 2) 1 _ _ _ (heap_setCell_same _ (Q + 2) 0 _ _ _ (h2)))))
      have fz : Fr (fun b => b = Q + 2) W3 WZ := by
        rw [← hWZ]
        exact (((((fr_set14 W3 (Q + 2) 0 _).then (fr_set14 _ (Q + 2) 1 _) fun k hk => Or.inl hk).then (fr_set14 _ (Q + 2) 2 _) fun k hk => Or.inl hk).then (fr_set14 _ (Q + 2) 3 _) fun k hk => Or.inl hk).then (fr_set14 _ (Q + 2) 4 _) fun k hk => Or.inl hk)
      have HFIN : Hid (RdV W PA (.returned (.tuple #[.agg #[.int .i64 xn, .int .u64 xs, .int .i64 xt, .bool xl, .slice xp xo.length xc], .int .i64 0])) WZ) := by
        show RdV W PA _ _; rw [HPA2.out]; refine ⟨⟨xn, xs, xt, xl, xp, xc, xo⟩, rfl, HXV.out, ⟨is_setV (HXR.out).1 h2 fz, (HXR.out).2⟩, ?_⟩
        have q := HB3.out
        exact q.trans (fz.below q.size fun k hk => by have := HSZ.out; have := HQQ.out; omega)
      have y0 : W3.cell? ⟨Q + 2, 0, none⟩ = some (.int .i64 0) := by rw [Lib.cell_of_heap h2]; rfl
      have z0 : W3.frozen? ⟨Q + 2, 0, none⟩ = false := Lib.frozen_of_heap h2 0
      have y1 : W3.cell? ⟨Q + 2, 1, none⟩ = some (.int .u64 0) := by rw [Lib.cell_of_heap h2]; rfl
      have z1 : W3.frozen? ⟨Q + 2, 1, none⟩ = false := Lib.frozen_of_heap h2 1
      have y2 : W3.cell? ⟨Q + 2, 2, none⟩ = some (.int .i64 0) := by rw [Lib.cell_of_heap h2]; rfl
      have z2 : W3.frozen? ⟨Q + 2, 2, none⟩ = false := Lib.frozen_of_heap h2 2
      have y3 : W3.cell? ⟨Q + 2, 3, none⟩ = some (.bool false) := by rw [Lib.cell_of_heap h2]; rfl
      have z3 : W3.frozen? ⟨Q + 2, 3, none⟩ = false := Lib.frozen_of_heap h2 3
      have y4 : W3.cell? ⟨Q + 2, 4, none⟩ = some (.slice none 0 0) := by rw [Lib.cell_of_heap h2]; rfl
      have z4 : W3.frozen? ⟨Q + 2, 4, none⟩ = false := Lib.frozen_of_heap h2 4
      have g0 : WZ.cell? ⟨Q + 2, 0, none⟩ = some (.int .i64 xn) := by rw [Lib.cell_of_heap hbz]; rfl
      have g1 : WZ.cell? ⟨Q + 2, 1, none⟩ = some (.int .u64 xs) := by rw [Lib.cell_of_heap hbz]; rfl
      have g2 : WZ.cell? ⟨Q + 2, 2, none⟩ = some (.int .i64 xt) := by rw [Lib.cell_of_heap hbz]; rfl
      have g3 : WZ.cell? ⟨Q + 2, 3, none⟩ = some (.bool xl) := by rw [Lib.cell_of_heap hbz]; rfl
      have g4 : WZ.cell? ⟨Q + 2, 4, none⟩ = some (.slice xp xo.length xc) := by rw [Lib.cell_of_heap hbz]; rfl
      clear hbz fz hxb
      go_upto_region 4 with fail
      try rw [hX]
      try rw [hW3]
      go_wp2_with fail
      try rw [hWZ]
      exact bodyPost_ret (v := .tuple #[.agg #[.int .i64 xn, .int .u64 xs, .int .i64 xt, .bool xl, .slice xp xo.length xc], .int .i64 0]) (by simp [results, Tryz.results22, go_sem, g0, g1, g2, g3, g4]) rfl HFIN.out
    · have HPN := hid hpa
      have HH9 := hid h2
      clear hpa HPA HXR HXV hbo h2 hxb
      rcases hbs with rfl | ⟨rfl, hxs⟩
      · go_upto_region 4 with fail
        try rw [hX]
        try rw [hW3]
        clear hX hW3
        go_wp2_with fail
        clear HH9 a0 a1 f0 f1 d0 d1 d2 d3 d4
        refine HF3.out.mono ?_
        rintro e w4 ⟨y, b9, rfl, hb9, hyv, hyr, hb4⟩
        obtain ⟨Y, hY⟩ : ∃ Y, w4.heap.size = Y := ⟨_, rfl⟩
        obtain ⟨W5, hW5⟩ : ∃ W5, w4.alloc (.cells (encVx y).toArray 39) = W5 := ⟨_, rfl⟩
        have hal5 : Below w4.heap.size w4 W5 := by rw [← hW5]; exact (Below.refl _ _).alloc (Nat.le_refl _) _
        have hyb : W5.heap[Y]? = some (.cells (encVx y).toArray 39 (0, 0)) := by rw [← hW5, ← hY]; exact heap_alloc_new w4 _
        have hb35 : Below W3.heap.size W3 W5 := bel_then hb4 hb4.size hal5
        have h2 := (hb35.block (Q + 2) (by have := HBV3.out.size; have := HSZ.out; omega)).trans HH2.out
        have HB5 : Hid (Below W.heap.size W W5) := bel_then HB3.out HB3.out.size hb35
        have HYN : Hid (y.num = (F0.getD zeroV).num) := congrArg Vr.num hyv
        clear hyv hyr hb4 hal5 hb35 HF3 HH2 HBV3 HB3
        obtain ⟨yn, ys, yt, yl, yp, yc, yo⟩ := y
        simp only [encVx, Vx.sl] at *
        have t0 : W5.cell? ⟨Y, 0, none⟩ = some (.int .i64 yn) := by rw [Lib.cell_of_heap hyb]; rfl
        clear hyb
        cases F0 with
        | none =>
            have HPA2 : Hid (PA = (none, 6)) := by show _ = _; rw [HPN.out, HPT.out]
            obtain rfl : b9 = false := hb9
            have hyf : yn = 0 := HYN.out
            subst hyf
            have hnf2 : ¬ (0 : Int) > i := by omega
            obtain ⟨WZ, hWZ⟩ : ∃ WZ, (((((W5.setCell ⟨Q + 2, 0, none⟩ (.int .i64 0)).setCell ⟨Q + 2, 1, none⟩ (.int .u64 0)).setCell ⟨Q + 2, 2, none⟩ (.int .i64 0)).setCell ⟨Q + 2, 3, none⟩ (.bool false)).setCell ⟨Q + 2, 4, none⟩ (.slice none 0 0)) = WZ := ⟨_, rfl⟩
            have hbz : WZ.heap[Q + 2]? = some (.cells #[.int .i64 0, .int .u64 0, .int .i64 0, .bool false, .slice none 0 0] 39 (0, 0)) := by
              rw [← hWZ]
              exact heap_setCell_same _ (Q + 2) 4 _ _ _ (heap_setCell_same _ (Q + 2) 3 _ _ _ (heap_setCell_same _ (Q + 2) 2 _ _ _ (heap_setCell_same _ (Q + 2) 1 _ _ _ (heap_setCell_same _ (Q + 2) 0 _ _ _ (h2)))))
            have fz : Fr (fun b => b = Q + 2) W5 WZ := by
              rw [← hWZ]
              exact (((((fr_set14 W5 (Q + 2) 0 _).then (fr_set14 _ (Q + 2) 1 _) fun k hk => Or.inl hk).then (fr_set14 _ (Q + 2) 2 _) fun k hk => Or.inl hk).then (fr_set14 _ (Q + 2) 3 _) fun k hk => Or.inl hk).then (fr_set14 _ (Q + 2) 4 _) fun k hk => Or.inl hk)
            have HFIN : Hid (RdV W PA (.returned (.tuple #[.agg #[.int .i64 0, .int .u64 0, .int .i64 0, .bool false, .slice none 0 0], .int .i64 6])) WZ) := by
              show RdV W PA _ _; rw [HPA2.out]; refine ⟨zeroVx, rfl, rfl, ⟨is_setV (zero_rd W5).1 h2 fz, (zero_rd W5).2⟩, ?_⟩
              have q := HB5.out
              exact q.trans (fz.below q.size fun k hk => by have := HSZ.out; have := HQQ.out; omega)
            have y0 : W5.cell? ⟨Q + 2, 0, none⟩ = some (.int .i64 0) := by rw [Lib.cell_of_heap h2]; rfl
            have z0 : W5.frozen? ⟨Q + 2, 0, none⟩ = false := Lib.frozen_of_heap h2 0
            have y1 : W5.cell? ⟨Q + 2, 1, none⟩ = some (.int .u64 0) := by rw [Lib.cell_of_heap h2]; rfl
            have z1 : W5.frozen? ⟨Q + 2, 1, none⟩ = false := Lib.frozen_of_heap h2 1
            have y2 : W5.cell? ⟨Q + 2, 2, none⟩ = some (.int .i64 0) := by rw [Lib.cell_of_heap h2]; rfl
            have z2 : W5.frozen? ⟨Q + 2, 2, none⟩ = false := Lib.frozen_of_heap h2 2
            have y3 : W5.cell? ⟨Q + 2, 3, none⟩ = some (.bool false) := by rw [Lib.cell_of_heap h2]; rfl
            have z3 : W5.frozen? ⟨Q + 2, 3, none⟩ = false := Lib.frozen_of_heap h2 3
            have y4 : W5.cell? ⟨Q + 2, 4, none⟩ = some (.slice none 0 0) := by rw [Lib.cell_of_heap h2]; rfl
            have z4 : W5.frozen? ⟨Q + 2, 4, none⟩ = false := Lib.frozen_of_heap h2 4
            have g0 : WZ.cell? ⟨Q + 2, 0, none⟩ = some (.int .i64 0) := by rw [Lib.cell_of_heap hbz]; rfl
            have g1 : WZ.cell? ⟨Q + 2, 1, none⟩ = some (.int .u64 0) := by rw [Lib.cell_of_heap hbz]; rfl
            have g2 : WZ.cell? ⟨Q + 2, 2, none⟩ = some (.int .i64 0) := by rw [Lib.cell_of_heap hbz]; rfl
            have g3 : WZ.cell? ⟨Q + 2, 3, none⟩ = some (.bool false) := by rw [Lib.cell_of_heap hbz]; rfl
            have g4 : WZ.cell? ⟨Q + 2, 4, none⟩ = some (.slice none 0 0) := by rw [Lib.cell_of_heap hbz]; rfl
            clear hbz fz
            go_upto_region 7 with fail
            try rw [hY]
            try rw [hW5]
            go_wp2_with fail
            try rw [hWZ]
            exact bodyPost_ret (v := .tuple #[.agg #[.int .i64 0, .int .u64 0, .int .i64 0, .bool false, .slice none 0 0], .int .i64 6]) (by simp [results, Tryz.results22, go_sem, g0, g1, g2, g3, g4]) rfl HFIN.out
        | some f0 =>
            have hyf : yn = f0.num := HYN.out
            subst hyf
            obtain rfl : b9 = true := hb9
            by_cases hnf : i < f0.num
            · have HPA2 : Hid (PA = (none, 8)) := by show _ = _; rw [HPN.out, HPT.out]; show ((none : Option Vr), if i < f0.num then (8 : Int) else 6) = _; rw [if_pos hnf]
              have hnf2 : f0.num > i := hnf
              obtain ⟨WZ, hWZ⟩ : ∃ WZ, (((((W5.setCell ⟨Q + 2, 0, none⟩ (.int .i64 0)).setCell ⟨Q + 2, 1, none⟩ (.int .u64 0)).setCell ⟨Q + 2, 2, none⟩ (.int .i64 0)).setCell ⟨Q + 2, 3, none⟩ (.bool false)).setCell ⟨Q + 2, 4, none⟩ (.slice none 0 0)) = WZ := ⟨_, rfl⟩
              have hbz : WZ.heap[Q + 2]? = some (.cells #[.int .i64 0, .int .u64 0, .int .i64 0, .bool false, .slice none 0 0] 39 (0, 0)) := by
                rw [← hWZ]
                exact heap_setCell_same _ (Q + 2) 4 _ _ _ (heap_setCell_same _ (Q + 2) 3 _ _ _ (heap_setCell_same _ (Q + 2) 2 _ _ _ (heap_setCell_same _ (Q + 2) 1 _ _ _ (heap_setCell_same _ (Q + 2) 0 _ _ _ (h2)))))
              have fz : Fr (fun b => b = Q + 2) W5 WZ := by
                rw [← hWZ]
                exact (((((fr_set14 W5 (Q + 2) 0 _).then (fr_set14 _ (Q + 2) 1 _) fun k hk => Or.inl hk).then (fr_set14 _ (Q + 2) 2 _) fun k hk => Or.inl hk).then (fr_set14 _ (Q + 2) 3 _) fun k hk => Or.inl hk).then (fr_set14 _ (Q + 2) 4 _) fun k hk => Or.inl hk)
              have HFIN : Hid (RdV W PA (.returned (.tuple #[.agg #[.int .i64 0, .int .u64 0, .int .i64 0, .bool false, .slice none 0 0], .int .i64 8])) WZ) := by
                show RdV W PA _ _; rw [HPA2.out]; refine ⟨zeroVx, rfl, rfl, ⟨is_setV (zero_rd W5).1 h2 fz, (zero_rd W5).2⟩, ?_⟩
                have q := HB5.out
                exact q.trans (fz.below q.size fun k hk => by have := HSZ.out; have := HQQ.out; omega)
              have y0 : W5.cell? ⟨Q + 2, 0, none⟩ = some (.int .i64 0) := by rw [Lib.cell_of_heap h2]; rfl
              have z0 : W5.frozen? ⟨Q + 2, 0, none⟩ = false := Lib.frozen_of_heap h2 0
              have y1 : W5.cell? ⟨Q + 2, 1, none⟩ = some (.int .u64 0) := by rw [Lib.cell_of_heap h2]; rfl
              have z1 : W5.frozen? ⟨Q + 2, 1, none⟩ = false := Lib.frozen_of_heap h2 1
              have y2 : W5.cell? ⟨Q + 2, 2, none⟩ = some (.int .i64 0) := by rw [Lib.cell_of_heap h2]; rfl
              have z2 : W5.frozen? ⟨Q + 2, 2, none⟩ = false := Lib.frozen_of_heap h2 2
              have y3 : W5.cell? ⟨Q + 2, 3, none⟩ = some (.bool false) := by rw [Lib.cell_of_heap h2]; rfl
              have z3 : W5.frozen? ⟨Q + 2, 3, none⟩ = false := Lib.frozen_of_heap h2 3
              have y4 : W5.cell? ⟨Q + 2, 4, none⟩ = some (.slice none 0 0) := by rw [Lib.cell_of_heap h2]; rfl
              have z4 : W5.frozen? ⟨Q + 2, 4, none⟩ = false := Lib.frozen_of_heap h2 4
              have g0 : WZ.cell? ⟨Q + 2, 0, none⟩ = some (.int .i64 0) := by rw [Lib.cell_of_heap hbz]; rfl
              have g1 : WZ.cell? ⟨Q + 2, 1, none⟩ = some (.int .u64 0) := by rw [Lib.cell_of_heap hbz]; rfl
              have g2 : WZ.cell? ⟨Q + 2, 2, none⟩ = some (.int .i64 0) := by rw [Lib.cell_of_heap hbz]; rfl
              have g3 : WZ.cell? ⟨Q + 2, 3, none⟩ = some (.bool false) := by rw [Lib.cell_of_heap hbz]; rfl
              have g4 : WZ.cell? ⟨Q + 2, 4, none⟩ = some (.slice none 0 0) := by rw [Lib.cell_of_heap hbz]; rfl
              clear hbz fz
              go_upto_region 7 with fail
              try rw [hY]
              try rw [hW5]
              go_wp2_with fail
              try rw [hWZ]
              exact bodyPost_ret (v := .tuple #[.agg #[.int .i64 0, .int .u64 0, .int .i64 0, .bool false, .slice none 0 0], .int .i64 8]) (by simp [results, Tryz.results22, go_sem, g0, g1, g2, g3, g4]) rfl HFIN.out
            · have HPA2 : Hid (PA = (none, 6)) := by show _ = _; rw [HPN.out, HPT.out]; show ((none : Option Vr), if i < f0.num then (8 : Int) else 6) = _; rw [if_neg hnf]
              have hnf2 : ¬ f0.num > i := hnf
              obtain ⟨WZ, hWZ⟩ : ∃ WZ, (((((W5.setCell ⟨Q + 2, 0, none⟩ (.int .i64 0)).setCell ⟨Q + 2, 1, none⟩ (.int .u64 0)).setCell ⟨Q + 2, 2, none⟩ (.int .i64 0)).setCell ⟨Q + 2, 3, none⟩ (.bool false)).setCell ⟨Q + 2, 4, none⟩ (.slice none 0 0)) = WZ := ⟨_, rfl⟩
              have hbz : WZ.heap[Q + 2]? = some (.cells #[.int .i64 0, .int .u64 0, .int .i64 0, .bool false, .slice none 0 0] 39 (0, 0)) := by
                rw [← hWZ]
                exact heap_setCell_same _ (Q + 2) 4 _ _ _ (heap_setCell_same _ (Q + 2) 3 _ _ _ (heap_setCell_same _ (Q + 2) 2 _ _ _ (heap_setCell_same _ (Q + 2) 1 _ _ _ (heap_setCell_same _ (Q + 2) 0 _ _ _ (h2)))))
              have fz : Fr (fun b => b = Q + 2) W5 WZ := by
                rw [← hWZ]
                exact (((((fr_set14 W5 (Q + 2) 0 _).then (fr_set14 _ (Q + 2) 1 _) fun k hk => Or.inl hk).then (fr_set14 _ (Q + 2) 2 _) fun k hk => Or.inl hk).then (fr_set14 _ (Q + 2) 3 _) fun k hk => Or.inl hk).then (fr_set14 _ (Q + 2) 4 _) fun k hk => Or.inl hk)
              have HFIN : Hid (RdV W PA (.returned (.tuple #[.agg #[.int .i64 0, .int .u64 0, .int .i64 0, .bool false, .slice none 0 0], .int .i64 6])) WZ) := by
                show RdV W PA _ _; rw [HPA2.out]; refine ⟨zeroVx, rfl, rfl, ⟨is_setV (zero_rd W5).1 h2 fz, (zero_rd W5).2⟩, ?_⟩
                have q := HB5.out
                exact q.trans (fz.below q.size fun k hk => by have := HSZ.out; have := HQQ.out; omega)
              have y0 : W5.cell? ⟨Q + 2, 0, none⟩ = some (.int .i64 0) := by rw [Lib.cell_of_heap h2]; rfl
              have z0 : W5.frozen? ⟨Q + 2, 0, none⟩ = false := Lib.frozen_of_heap h2 0
              have y1 : W5.cell? ⟨Q + 2, 1, none⟩ = some (.int .u64 0) := by rw [Lib.cell_of_heap h2]; rfl
              have z1 : W5.frozen? ⟨Q + 2, 1, none⟩ = false := Lib.frozen_of_heap h2 1
              have y2 : W5.cell? ⟨Q + 2, 2, none⟩ = some (.int .i64 0) := by rw [Lib.cell_of_heap h2]; rfl
              have z2 : W5.frozen? ⟨Q + 2, 2, none⟩ = false := Lib.frozen_of_heap h2 2
              have y3 : W5.cell? ⟨Q + 2, 3, none⟩ = some (.bool false) := by rw [Lib.cell_of_heap h2]; rfl
              have z3 : W5.frozen? ⟨Q + 2, 3, none⟩ = false := Lib.frozen_of_heap h2 3
              have y4 : W5.cell? ⟨Q + 2, 4, none⟩ = some (.slice none 0 0) := by rw [Lib.cell_of_heap h2]; rfl
              have z4 : W5.frozen? ⟨Q + 2, 4, none⟩ = false := Lib.frozen_of_heap h2 4
              have g0 : WZ.cell? ⟨Q + 2, 0, none⟩ = some (.int .i64 0) := by rw [Lib.cell_of_heap hbz]; rfl
              have g1 : WZ.cell? ⟨Q + 2, 1, none⟩ = some (.int .u64 0) := by rw [Lib.cell_of_heap hbz]; rfl
              have g2 : WZ.cell? ⟨Q + 2, 2, none⟩ = some (.int .i64 0) := by rw [Lib.cell_of_heap hbz]; rfl
              have g3 : WZ.cell? ⟨Q + 2, 3, none⟩ = some (.bool false) := by rw [Lib.cell_of_heap hbz]; rfl
              have g4 : WZ.cell? ⟨Q + 2, 4, none⟩ = some (.slice none 0 0) := by rw [Lib.cell_of_heap hbz]; rfl
              clear hbz fz
              go_upto_region 7 with fail
              try rw [hY]
              try rw [hW5]
              go_wp2_with fail
              try rw [hWZ]
              exact bodyPost_ret (v := .tuple #[.agg #[.int .i64 0, .int .u64 0, .int .i64 0, .bool false, .slice none 0 0], .int .i64 6]) (by simp [results, Tryz.results22, go_sem, g0, g1, g2, g3, g4]) rfl HFIN.out
      · go_upto_region 4 with fail
        try rw [hX]
        try rw [hW3]
        clear hX hW3
        go_wp2_with fail
        clear HH9 a0 a1 f0 f1 d0 d1 d2 d3 d4
        refine HF3.out.mono ?_
        rintro e w4 ⟨y, b9, rfl, hb9, hyv, hyr, hb4⟩
        obtain ⟨Y, hY⟩ : ∃ Y, w4.heap.size = Y := ⟨_, rfl⟩
        obtain ⟨W5, hW5⟩ : ∃ W5, w4.alloc (.cells (encVx y).toArray 39) = W5 := ⟨_, rfl⟩
        have hal5 : Below w4.heap.size w4 W5 := by rw [← hW5]; exact (Below.refl _ _).alloc (Nat.le_refl _) _
        have hyb : W5.heap[Y]? = some (.cells (encVx y).toArray 39 (0, 0)) := by rw [← hW5, ← hY]; exact heap_alloc_new w4 _
        have hb35 : Below W3.heap.size W3 W5 := bel_then hb4 hb4.size hal5
        have h2 := (hb35.block (Q + 2) (by have := HBV3.out.size; have := HSZ.out; omega)).trans HH2.out
        have HB5 : Hid (Below W.heap.size W W5) := bel_then HB3.out HB3.out.size hb35
        have HYN : Hid (y.num = (F0.getD zeroV).num) := congrArg Vr.num hyv
        clear hyv hyr hb4 hal5 hb35 HF3 HH2 HBV3 HB3
        obtain ⟨yn, ys, yt, yl, yp, yc, yo⟩ := y
        simp only [encVx, Vx.sl] at *
        have t0 : W5.cell? ⟨Y, 0, none⟩ = some (.int .i64 yn) := by rw [Lib.cell_of_heap hyb]; rfl
        clear hyb
        cases F0 with
        | none =>
            have HPA2 : Hid (PA = (none, 6)) := by show _ = _; rw [HPN.out, HPT.out]
            obtain rfl : b9 = false := hb9
            have hyf : yn = 0 := HYN.out
            subst hyf
            have hnf2 : ¬ (0 : Int) > i := by omega
            obtain ⟨WZ, hWZ⟩ : ∃ WZ, (((((W5.setCell ⟨Q + 2, 0, none⟩ (.int .i64 0)).setCell ⟨Q + 2, 1, none⟩ (.int .u64 0)).setCell ⟨Q + 2, 2, none⟩ (.int .i64 0)).setCell ⟨Q + 2, 3, none⟩ (.bool false)).setCell ⟨Q + 2, 4, none⟩ (.slice none 0 0)) = WZ := ⟨_, rfl⟩
            have hbz : WZ.heap[Q + 2]? = some (.cells #[.int .i64 0, .int .u64 0, .int .i64 0, .bool false, .slice none 0 0] 39 (0, 0)) := by
              rw [← hWZ]
              exact heap_setCell_same _ (Q + 2) 4 _ _ _ (heap_setCell_same _ (Q + 2) 3 _ _ _ (heap_setCell_same _ (Q + 2) 2 _ _ _ (heap_setCell_same _ (Q + 2) 1 _ _ _ (heap_setCell_same _ (Q + 2) 0 _ _ _ (h2)))))
            have fz : Fr (fun b => b = Q + 2) W5 WZ := by
              rw [← hWZ]
              exact (((((fr_set14 W5 (Q + 2) 0 _).then (fr_set14 _ (Q + 2) 1 _) fun k hk => Or.inl hk).then (fr_set14 _ (Q + 2) 2 _) fun k hk => Or.inl hk).then (fr_set14 _ (Q + 2) 3 _) fun k hk => Or.inl hk).then (fr_set14 _ (Q + 2) 4 _) fun k hk => Or.inl hk)
            have HFIN : Hid (RdV W PA (.returned (.tuple #[.agg #[.int .i64 0, .int .u64 0, .int .i64 0, .bool false, .slice none 0 0], .int .i64 6])) WZ) := by
              show RdV W PA _ _; rw [HPA2.out]; refine ⟨zeroVx, rfl, rfl, ⟨is_setV (zero_rd W5).1 h2 fz, (zero_rd W5).2⟩, ?_⟩
              have q := HB5.out
              exact q.trans (fz.below q.size fun k hk => by have := HSZ.out; have := HQQ.out; omega)
            have y0 : W5.cell? ⟨Q + 2, 0, none⟩ = some (.int .i64 0) := by rw [Lib.cell_of_heap h2]; rfl
            have z0 : W5.frozen? ⟨Q + 2, 0, none⟩ = false := Lib.frozen_of_heap h2 0
            have y1 : W5.cell? ⟨Q + 2, 1, none⟩ = some (.int .u64 0) := by rw [Lib.cell_of_heap h2]; rfl
            have z1 : W5.frozen? ⟨Q + 2, 1, none⟩ = false := Lib.frozen_of_heap h2 1
            have y2 : W5.cell? ⟨Q + 2, 2, none⟩ = some (.int .i64 0) := by rw [Lib.cell_of_heap h2]; rfl
            have z2 : W5.frozen? ⟨Q + 2, 2, none⟩ = false := Lib.frozen_of_heap h2 2
            have y3 : W5.cell? ⟨Q + 2, 3, none⟩ = some (.bool false) := by rw [Lib.cell_of_heap h2]; rfl
            have z3 : W5.frozen? ⟨Q + 2, 3, none⟩ = false := Lib.frozen_of_heap h2 3
            have y4 : W5.cell? ⟨Q + 2, 4, none⟩ = some (.slice none 0 0) := by rw [Lib.cell_of_heap h2]; rfl
            have z4 : W5.frozen? ⟨Q + 2, 4, none⟩ = false := Lib.frozen_of_heap h2 4
            have g0 : WZ.cell? ⟨Q + 2, 0, none⟩ = some (.int .i64 0) := by rw [Lib.cell_of_heap hbz]; rfl
            have g1 : WZ.cell? ⟨Q + 2, 1, none⟩ = some (.int .u64 0) := by rw [Lib.cell_of_heap hbz]; rfl
            have g2 : WZ.cell? ⟨Q + 2, 2, none⟩ = some (.int .i64 0) := by rw [Lib.cell_of_heap hbz]; rfl
            have g3 : WZ.cell? ⟨Q + 2, 3, none⟩ = some (.bool false) := by rw [Lib.cell_of_heap hbz]; rfl
            have g4 : WZ.cell? ⟨Q + 2, 4, none⟩ = some (.slice none 0 0) := by rw [Lib.cell_of_heap hbz]; rfl
            clear hbz fz
            go_upto_region 7 with fail
            try rw [hY]
            try rw [hW5]
            go_wp2_with fail
            try rw [hWZ]
            exact bodyPost_ret (v := .tuple #[.agg #[.int .i64 0, .int .u64 0, .int .i64 0, .bool false, .slice none 0 0], .int .i64 6]) (by simp [results, Tryz.results22, go_sem, g0, g1, g2, g3, g4]) rfl HFIN.out
        | some f0 =>
            have hyf : yn = f0.num := HYN.out
            subst hyf
            obtain rfl : b9 = true := hb9
            by_cases hnf : i < f0.num
            · have HPA2 : Hid (PA = (none, 8)) := by show _ = _; rw [HPN.out, HPT.out]; show ((none : Option Vr), if i < f0.num then (8 : Int) else 6) = _; rw [if_pos hnf]
              have hnf2 : f0.num > i := hnf
              obtain ⟨WZ, hWZ⟩ : ∃ WZ, (((((W5.setCell ⟨Q + 2, 0, none⟩ (.int .i64 0)).setCell ⟨Q + 2, 1, none⟩ (.int .u64 0)).setCell ⟨Q + 2, 2, none⟩ (.int .i64 0)).setCell ⟨Q + 2, 3, none⟩ (.bool false)).setCell ⟨Q + 2, 4, none⟩ (.slice none 0 0)) = WZ := ⟨_, rfl⟩
              have hbz : WZ.heap[Q + 2]? = some (.cells #[.int .i64 0, .int .u64 0, .int .i64 0, .bool false, .slice none 0 0] 39 (0, 0)) := by
                rw [← hWZ]
                exact heap_setCell_same _ (Q + 2) 4 _ _ _ (heap_setCell_same _ (Q + 2) 3 _ _ _ (heap_setCell_same _ (Q + 2) 2 _ _ _ (heap_setCell_same _ (Q + 2) 1 _ _ _ (heap_setCell_same _ (Q + 2) 0 _ _ _ (h2)))))
              have fz : Fr (fun b => b = Q + 2) W5 WZ := by
                rw [← hWZ]
                exact (((((fr_set14 W5 (Q + 2) 0 _).then (fr_set14 _ (Q + 2) 1 _) fun k hk => Or.inl hk).then (fr_set14 _ (Q + 2) 2 _) fun k hk => Or.inl hk).then (fr_set14 _ (Q + 2) 3 _) fun k hk => Or.inl hk).then (fr_set14 _ (Q + 2) 4 _) fun k hk => Or.inl hk)
              have HFIN : Hid (RdV W PA (.returned (.tuple #[.agg #[.int .i64 0, .int .u64 0, .int .i64 0, .bool false, .slice none 0 0], .int .i64 8])) WZ) := by
                show RdV W PA _ _; rw [HPA2.out]; refine ⟨zeroVx, rfl, rfl, ⟨is_setV (zero_rd W5).1 h2 fz, (zero_rd W5).2⟩, ?_⟩
                have q := HB5.out
                exact q.trans (fz.below q.size fun k hk => by have := HSZ.out; have := HQQ.out; omega)
              have y0 : W5.cell? ⟨Q + 2, 0, none⟩ = some (.int .i64 0) := by rw [Lib.cell_of_heap h2]; rfl
              have z0 : W5.frozen? ⟨Q + 2, 0, none⟩ = false := Lib.frozen_of_heap h2 0
              have y1 : W5.cell? ⟨Q + 2, 1, none⟩ = some (.int .u64 0) := by rw [Lib.cell_of_heap h2]; rfl
              have z1 : W5.frozen? ⟨Q + 2, 1, none⟩ = false := Lib.frozen_of_heap h2 1
              have y2 : W5.cell? ⟨Q + 2, 2, none⟩ = some (.int .i64 0) := by rw [Lib.cell_of_heap h2]; rfl
              have z2 : W5.frozen? ⟨Q + 2, 2, none⟩ = false := Lib.frozen_of_heap h2 2
              have y3 : W5.cell? ⟨Q + 2, 3, none⟩ = some (.bool false) := by rw [Lib.cell_of_heap h2]; rfl
              have z3 : W5.frozen? ⟨Q + 2, 3, none⟩ = false := Lib.frozen_of_heap h2 3
              have y4 : W5.cell? ⟨Q + 2, 4, none⟩ = some (.slice none 0 0) := by rw [Lib.cell_of_heap h2]; rfl
              have z4 : W5.frozen? ⟨Q + 2, 4, none⟩ = false := Lib.frozen_of_heap h2 4
              have g0 : WZ.cell? ⟨Q + 2, 0, none⟩ = some (.int .i64 0) := by rw [Lib.cell_of_heap hbz]; rfl
              have g1 : WZ.cell? ⟨Q + 2, 1, none⟩ = some (.int .u64 0) := by rw [Lib.cell_of_heap hbz]; rfl
              have g2 : WZ.cell? ⟨Q + 2, 2, none⟩ = some (.int .i64 0) := by rw [Lib.cell_of_heap hbz]; rfl
              have g3 : WZ.cell? ⟨Q + 2, 3, none⟩ = some (.bool false) := by rw [Lib.cell_of_heap hbz]; rfl
              have g4 : WZ.cell? ⟨Q + 2, 4, none⟩ = some (.slice none 0 0) := by rw [Lib.cell_of_heap hbz]; rfl
              clear hbz fz
              go_upto_region 7 with fail
              try rw [hY]
              try rw [hW5]
              go_wp2_with fail
              try rw [hWZ]
              exact bodyPost_ret (v := .tuple #[.agg #[.int .i64 0, .int .u64 0, .int .i64 0, .bool false, .slice none 0 0], .int .i64 8]) (by simp [results, Tryz.results22, go_sem, g0, g1, g2, g3, g4]) rfl HFIN.out
            · have HPA2 : Hid (PA = (none, 6)) := by show _ = _; rw [HPN.out, HPT.out]; show ((none : Option Vr), if i < f0.num then (8 : Int) else 6) = _; rw [if_neg hnf]
              have hnf2 : ¬ f0.num > i := hnf
              obtain ⟨WZ, hWZ⟩ : ∃ WZ, (((((W5.setCell ⟨Q + 2, 0, none⟩ (.int .i64 0)).setCell ⟨Q + 2, 1, none⟩ (.int .u64 0)).setCell ⟨Q + 2, 2, none⟩ (.int .i64 0)).setCell ⟨Q + 2, 3, none⟩ (.bool false)).setCell ⟨Q + 2, 4, none⟩ (.slice none 0 0)) = WZ := ⟨_, rfl⟩
              have hbz : WZ.heap[Q + 2]? = some (.cells #[.int .i64 0, .int .u64 0, .int .i64 0, .bool false, .slice none 0 0] 39 (0, 0)) := by
                rw [← hWZ]
                exact heap_setCell_same _ (Q + 2) 4 _ _ _ (heap_setCell_same _ (Q + 2) 3 _ _ _ (heap_setCell_same _ (Q + 2) 2 _ _ _ (heap_setCell_same _ (Q + 2) 1 _ _ _ (heap_setCell_same _ (Q + 2) 0 _ _ _ (h2)))))
              have fz : Fr (fun b => b = Q + 2) W5 WZ := by
                rw [← hWZ]
                exact (((((fr_set14 W5 (Q + 2) 0 _).then (fr_set14 _ (Q + 2) 1 _) fun k hk => Or.inl hk).then (fr_set14 _ (Q + 2) 2 _) fun k hk => Or.inl hk).then (fr_set14 _ (Q + 2) 3 _) fun k hk => Or.inl hk).then (fr_set14 _ (Q + 2) 4 _) fun k hk => Or.inl hk)
              have HFIN : Hid (RdV W PA (.returned (.tuple #[.agg #[.int .i64 0, .int .u64 0, .int .i64 0, .bool false, .slice none 0 0], .int .i64 6])) WZ) := by
                show RdV W PA _ _; rw [HPA2.out]; refine ⟨zeroVx, rfl, rfl, ⟨is_setV (zero_rd W5).1 h2 fz, (zero_rd W5).2⟩, ?_⟩
                have q := HB5.out
                exact q.trans (fz.below q.size fun k hk => by have := HSZ.out; have := HQQ.out; omega)
              have y0 : W5.cell? ⟨Q + 2, 0, none⟩ = some (.int .i64 0) := by rw [Lib.cell_of_heap h2]; rfl
              have z0 : W5.frozen? ⟨Q + 2, 0, none⟩ = false := Lib.frozen_of_heap h2 0
              have y1 : W5.cell? ⟨Q + 2, 1, none⟩ = some (.int .u64 0) := by rw [Lib.cell_of_heap h2]; rfl
              have z1 : W5.frozen? ⟨Q + 2, 1, none⟩ = false := Lib.frozen_of_heap h2 1
              have y2 : W5.cell? ⟨Q + 2, 2, none⟩ = some (.int .i64 0) := by rw [Lib.cell_of_heap h2]; rfl
              have z2 : W5.frozen? ⟨Q + 2, 2, none⟩ = false := Lib.frozen_of_heap h2 2
              have y3 : W5.cell? ⟨Q + 2, 3, none⟩ = some (.bool false) := by rw [Lib.cell_of_heap h2]; rfl
              have z3 : W5.frozen? ⟨Q + 2, 3, none⟩ = false := Lib.frozen_of_heap h2 3
              have y4 : W5.cell? ⟨Q + 2, 4, none⟩ = some (.slice none 0 0) := by rw [Lib.cell_of_heap h2]; rfl
              have z4 : W5.frozen? ⟨Q + 2, 4, none⟩ = false := Lib.frozen_of_heap h2 4
              have g0 : WZ.cell? ⟨Q + 2, 0, none⟩ = some (.int .i64 0) := by rw [Lib.cell_of_heap hbz]; rfl
              have g1 : WZ.cell? ⟨Q + 2, 1, none⟩ = some (.int .u64 0) := by rw [Lib.cell_of_heap hbz]; rfl
              have g2 : WZ.cell? ⟨Q + 2, 2, none⟩ = some (.int .i64 0) := by rw [Lib.cell_of_heap hbz]; rfl
              have g3 : WZ.cell? ⟨Q + 2, 3, none⟩ = some (.bool false) := by rw [Lib.cell_of_heap hbz]; rfl
              have g4 : WZ.cell? ⟨Q + 2, 4, none⟩ = some (.slice none 0 0) := by rw [Lib.cell_of_heap hbz]; rfl
              clear hbz fz
              go_upto_region 7 with fail
              try rw [hY]
              try rw [hW5]
              go_wp2_with fail
              try rw [hWZ]
              exact bodyPost_ret (v := .tuple #[.agg #[.int .i64 0, .int .u64 0, .int .i64 0, .bool false, .slice none 0 0], .int .i64 6]) (by simp [results, Tryz.results22, go_sem, g0, g1, g2, g3, g4]) rfl HFIN.out

end Go.Proofs.YticfpkodoghnnaaGreat

/-
  Package past as it landed (stage 14): all that the laws ask of it.
-/
namespace Go.Proofs.YticfpkodoghnnaaGreat
open Go.RowKit

theorem scan_len14 {D : List RowD} (h : OkD D) (typ : ByteArray) (t : Int) (P : List Fld → Bool) : (scanD D typ t P).length ≤ countD D := by
  refine Nat.le_trans (List.length_filter_le _ _) (Nat.le_trans (List.length_filterMap_le _ _) (dir_len h))
theorem ofD_len14 {D : List RowD} (h : OkD D) (k : Ky) : (ofD D k).length ≤ countD D := by
  by_cases he : ofD D k = []
  · rw [he]; simp
  · have := seen_some h List.length (seen := [k]) (by simp) (fun x hx => by rw [List.mem_singleton.1 hx]; exact he)
    simp only [List.map_cons, List.map_nil, List.sum_cons, List.sum_nil] at this
    unfold countD
    simpa using this
theorem find_len14 {n0 g n : Nat} {D : List RowD} {W : World} (h : DirS n0 g n D W) (hn : n ≤ 1760000000000) (fl sn t : Int) (typ : ByteArray) (P : List Fld → Bool) : (pastFind D fl sn t typ P).1.length ≤ 2400000000000 := by
  unfold pastFind
  split
  · simp
  · have h1 := scan_len14 h.ok typ (min t sn) P
    have h2 := h.few
    show (scanD D typ (min t sn) P).length ≤ _
    omega
theorem hist_len14 {n0 g n : Nat} {D : List RowD} {W : World} (h : DirS n0 g n D W) (hn : n ≤ 1760000000000) (fl sn : Int) (k : Ky) (s : Int) : (pastHist D fl sn k s).1.length ≤ 2400000000000 := by
  unfold pastHist
  split
  · simp
  · have h1 := since_lenV (ofD D k) s fun v => decide (v.stamp ≤ sn)
    have h2 := ofD_len14 h.ok k
    have h3 := h.few
    show ((sinceV (ofD D k) s).filter fun v => decide (v.stamp ≤ sn)).length ≤ _
    omega
theorem since_len14 {n0 g n : Nat} {D : List RowD} {W : World} (h : DirS n0 g n D W) (hn : n ≤ 1760000000000) {fl sn : Int} {typ : ByteArray} {s : Int} {L : List Fnd × Int} (hL : PastSince D fl sn typ s L) : L.1.length ≤ 1760000000000 := by
  unfold PastSince at hL
  split at hL
  · rw [hL]; simp
  · obtain ⟨_, r, h1, _, h2⟩ := hL
    rw [h2]
    have h3 := List.length_filter_le (fun x : Fnd => decide (x.2.stamp ≤ sn)) r
    have h4 : r.length ≤ countD D := by
      rw [h1.length_eq, ← sinceL_keys h.ok s typ]
      exact sinceL_len h.ok s (keysD_nodup h.ok typ) fun k hk => keysD_there h.ok hk
    have h5 := h.few
    omega

theorem thePast : PastApi where
  opn := popen_any
  at' h _ fl sn t k _ _ _ hk := pat_any h fl sn t k hk
  find h hn fl sn t typ pa pc pt _ _ _ hp hpf := (pfind_any h hn fl sn t typ pa pc pt hp hpf).mono fun _ _ q => q.rd (find_len14 h hn fl sn t typ _)
  hist h hn fl sn k s _ _ _ hk := (phist_any h hn fl sn k s hk).mono fun _ _ q => q.rd (hist_len14 h hn fl sn k s)
  since h hn fl sn typ s _ _ _ := (psince_any h hn fl sn typ s).mono fun _ _ ⟨L, h1, h2⟩ => ⟨L, h1, h2.rd (by have := since_len14 h hn h1; omega)⟩
  num h hn fl sn k i _ _ hk _ hi := pnum_any h hn fl sn k hk i hi

end Go.Proofs.YticfpkodoghnnaaGreat
