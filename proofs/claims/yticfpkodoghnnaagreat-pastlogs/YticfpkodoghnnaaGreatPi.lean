/-
  Texts of this claim, one behind the other: Lm0 Lfd Psw Lm1 Ls5 La5.
-/
import Derived.Test.YticfpkodoghnnaaGreatPe
import Derived.Test.YticfpkodoghnnaaGreatPf
import Derived.Test.YticfpkodoghnnaaGreatPd
import Derived.Deep.DeepAppendWide
import Derived.Test.YticfpkodoghnnaaGreatPg
import Derived.Test.YticfpkodoghnnaaGreatPc
import Derived.Deep.CutBlock
import Derived.Test.YticfpkodoghnnaaGreatRows
import Derived.Test.YticfpkodoghnnaaGreatPh
/-
  PastLogs (stage 14), without the program: a key's history is the log's part of it; what is visible at a stamp is the last that isn't above; the live ones.
-/
namespace Go.Proofs.YticfpkodoghnnaaGreat

section
variable {l : List Vr}
theorem filt_none {s : Int} (h : ∀ v ∈ l, s < v.stamp) : l.filter (fun v => decide (v.stamp ≤ s)) = [] := by
  rw [List.filter_eq_nil_iff]
  intro v hv
  have := h v hv
  simp only [decide_eq_true_eq]
  omega
theorem filt_take : ∀ {l : List Vr}, RiseV l → ∀ s, l.filter (fun v => decide (v.stamp ≤ s)) = l.take (cutV l s)
  | [], _, _ => by simp
  | v :: l, hr, s => by
    obtain ⟨h1, h2⟩ := List.pairwise_cons.1 hr
    rw [cutV_cons]
    by_cases hv : v.stamp ≤ s
    · rw [if_pos hv, List.filter_cons_of_pos (by simpa using hv), filt_take h2 s, List.take_succ_cons]
    · rw [if_neg hv, List.filter_cons_of_neg (by simpa using hv), List.take_zero]
      exact filt_none fun x hx => by have := h1 x hx; omega
theorem cut_take : ∀ {l : List Vr}, RiseV l → ∀ s t, cutV (l.take (cutV l s)) t = cutV l (min t s)
  | [], _, _, _ => by simp [cutV]
  | v :: l, hr, s, t => by
    obtain ⟨h1, h2⟩ := List.pairwise_cons.1 hr
    rw [cutV_cons, cutV_cons]
    by_cases hv : v.stamp ≤ s
    · rw [if_pos hv, List.take_succ_cons, cutV_cons, cut_take h2 s t]
      by_cases ht : v.stamp ≤ t
      · rw [if_pos ht, if_pos (by omega)]
      · rw [if_neg ht, if_neg (by omega)]
    · rw [if_neg hv, List.take_zero, if_neg (by omega)]
      rfl
theorem since_take : ∀ {l : List Vr}, RiseV l → ∀ s t, (sinceV l t).filter (fun v => decide (v.stamp ≤ s)) = (l.take (cutV l s)).drop (cutV l (min t s))
  | [], _, _, _ => by simp [sinceV]
  | v :: l, hr, s, t => by
    obtain ⟨h1, h2⟩ := List.pairwise_cons.1 hr
    have ih := since_take h2 s t
    unfold sinceV at ih ⊢
    rw [cutV_cons, cutV_cons, cutV_cons]
    by_cases hv : v.stamp ≤ s
    · by_cases ht : v.stamp ≤ t
      · rw [if_pos hv, if_pos ht, if_pos (by omega), List.drop_succ_cons, List.take_succ_cons, List.drop_succ_cons]
        exact ih
      · rw [if_pos hv, if_neg ht, if_neg (by omega), List.drop_zero, List.drop_zero, filt_take hr, cutV_cons, if_pos hv]
    · rw [if_neg hv, List.take_zero, List.drop_nil]
      refine filt_none fun x hx => ?_
      have hx' := List.mem_of_mem_drop hx
      rcases List.mem_cons.1 hx' with rfl | hx'
      · omega
      · have := h1 x hx'
        omega
theorem cut_zero (h : OkV l) : cutV l 0 = 0 := by
  cases l with
  | nil => rfl
  | cons v l =>
    rw [cutV_cons, if_neg]
    have := (h.first v List.mem_cons_self).2.1
    omega
/-- All of a key's versions that aren't above the snapshot. -/
def allV (l : List Vr) (s : Int) : List Vr := l.take (cutV l s)
theorem hist_all (h : OkV l) (s : Int) : (sinceV l 0).filter (fun v => decide (v.stamp ≤ s)) = allV l s := by
  rw [since_take h.rise]
  have : cutV l (min 0 s) = 0 := by
    have h0 := cut_zero h
    cases l with
    | nil => rfl
    | cons v l =>
      rw [cutV_cons, if_neg]
      have := (h.first v List.mem_cons_self).2.1
      omega
  rw [this, List.drop_zero]
  rfl
theorem hist_drop (h : OkV l) (s t : Int) : (sinceV l t).filter (fun v => decide (v.stamp ≤ s)) = (allV l s).drop (cutV (allV l s) t) := by
  rw [since_take h.rise]
  unfold allV
  rw [cut_take h.rise]
theorem at_all (h : OkV l) (s t : Int) : atV l (min t s) = if cutV (allV l s) t = 0 then none else (allV l s)[cutV (allV l s) t - 1]? := by
  have e : cutV (allV l s) t = cutV l (min t s) := cut_take h.rise s t
  rw [e]
  unfold atV
  by_cases h0 : cutV l (min t s) = 0
  · rw [if_pos h0, if_pos h0]
  · rw [if_neg h0, if_neg h0]
    have hle : cutV l (min t s) ≤ (allV l s).length := by rw [← e]; exact cutV_le _ _
    have hle2 : (allV l s).length ≤ cutV l s := by unfold allV; rw [List.length_take]; omega
    unfold allV
    rw [List.getElem?_take, if_pos (by omega)]
end

/-- The log's part of a key. -/
theorem log_of {D : List RowD} (h : OkD D) {k : Ky} {t s : Int} {r : List Fnd} (hp : r.Perm (sinceD D k.1 t)) (hs : SortN r) :
    ((r.filter fun x => decide (x.2.stamp ≤ s)).filter fun x => decide (x.1 = k)).map Prod.snd = (sinceV (ofD D k) t).filter fun v => decide (v.stamp ≤ s) := by
  have hok := ofD_ok h k
  have hr : RiseV (sinceV (ofD D k) t) := hok.rise.drop
  have hsub : ∀ x ∈ ((r.filter fun x => decide (x.2.stamp ≤ s)).filter fun x => decide (x.1 = k)), x ∈ sinceD D k.1 t ∧ x.2.stamp ≤ s ∧ x.1 = k := fun x hx => by
    obtain ⟨h1, h2⟩ := List.mem_filter.1 hx
    obtain ⟨h3, h4⟩ := List.mem_filter.1 h1
    exact ⟨hp.mem_iff.1 h3, of_decide_eq_true h4, of_decide_eq_true h2⟩
  have hnd : (((r.filter fun x => decide (x.2.stamp ≤ s)).filter fun x => decide (x.1 = k)).map Prod.snd).Nodup := by
    have h1 : ((r.filter fun x => decide (x.2.stamp ≤ s)).filter fun x => decide (x.1 = k)).Nodup := ((hp.nodup_iff.2 (nodup_sinceD h k.1 t)).filter _).filter _
    refine List.pairwise_map.2 (h1.imp_of_mem fun {a b} ha hb hab e => hab ?_)
    exact Prod.ext ((hsub a ha).2.2.trans (hsub b hb).2.2.symm) e
  have hnd2 : ((sinceV (ofD D k) t).filter fun v => decide (v.stamp ≤ s)).Nodup := (List.Pairwise.imp (fun {a b} hab e => by rw [e] at hab; omega) hr).filter _
  have hperm : (((r.filter fun x => decide (x.2.stamp ≤ s)).filter fun x => decide (x.1 = k)).map Prod.snd).Perm ((sinceV (ofD D k) t).filter fun v => decide (v.stamp ≤ s)) := by
    refine (List.perm_ext_iff_of_nodup hnd hnd2).2 fun v => ?_
    rw [List.mem_map, List.mem_filter]
    constructor
    · rintro ⟨x, hx, rfl⟩
      obtain ⟨h1, h2, h3⟩ := hsub x hx
      have := ((mem_sinceD h).1 h1).2
      rw [h3] at this
      exact ⟨this, decide_eq_true h2⟩
    · rintro ⟨h1, h2⟩
      refine ⟨(k, v), List.mem_filter.2 ⟨List.mem_filter.2 ⟨hp.mem_iff.2 ((mem_sinceD h).2 ⟨rfl, h1⟩), h2⟩, by simp⟩, rfl⟩
  refine List.Perm.eq_of_pairwise (le := fun a b => a.stamp ≤ b.stamp) (fun a b ha hb hab hba => ?_) ?_ ((List.Pairwise.imp (fun {a b} hab => Int.le_of_lt hab) hr).filter _) hperm
  · have ha' := (List.mem_filter.1 (hperm.mem_iff.1 ha)).1
    have hb' := (List.mem_filter.1 hb).1
    have e : a.stamp = b.stamp := by omega
    obtain ⟨i, hi, rfl⟩ := List.mem_iff_getElem.1 ha'
    obtain ⟨j, hj, rfl⟩ := List.mem_iff_getElem.1 hb'
    rcases Nat.lt_trichotomy i j with q | q | q
    · have := rise_lt hr q hj; omega
    · subst q; rfl
    · have := rise_lt hr q hi; omega
  · have h1 : ((r.filter fun x => decide (x.2.stamp ≤ s)).filter fun x => decide (x.1 = k)).Pairwise fun a b => ltFd b a = false := (hs.filter _).filter _
    refine List.pairwise_map.2 (h1.imp fun {a b} hab => ?_)
    have n1 : ¬ ltFd b a = true := by rw [hab]; simp
    rw [ltFd_iff] at n1
    exact Int.not_lt.1 fun q => n1 (Or.inl q)

/-- What is in the log. -/
theorem log_mem {D : List RowD} (h : OkD D) {typ : ByteArray} {t s : Int} {r : List Fnd} (hp : r.Perm (sinceD D typ t)) : ∀ x ∈ r.filter (fun x => decide (x.2.stamp ≤ s)), t < x.2.stamp ∧ x.2.stamp ≤ s ∧ x.1.1 = typ := fun x hx => by
  obtain ⟨h1, h2⟩ := List.mem_filter.1 hx
  obtain ⟨h3, h4⟩ := (mem_sinceD h).1 (hp.mem_iff.1 h1)
  refine ⟨?_, of_decide_eq_true h2, h3⟩
  unfold sinceV at h4
  obtain ⟨i, hi, e⟩ := List.mem_iff_getElem.1 h4
  rw [List.getElem_drop] at e
  rw [← e]
  exact cutV_above _ (ofD_ok h _).rise _ _ (by rw [List.length_drop] at hi; omega) (by omega)

/-- A key is among the live ones just if what is visible is live. -/
theorem scan_there {D : List RowD} (h : OkD D) (k : Ky) (m : Int) {P : List Fld → Bool} (hP : ∀ v, P v = true) (v : Vr) (hv : v = (atV (ofD D k) m).getD zeroV) : ((scanD D k.1 m P).any fun x => decide (x.1 = k) && decide (x.2 = v)) = ((atV (ofD D k) m).isSome && v.live) := by
  have hmem : ∀ x, x ∈ scanD D k.1 m P → atV (ofD D x.1) m = some x.2 ∧ x.2.live = true := fun x hx => walkD_mem h (List.mem_filter.1 hx).1
  rw [Bool.eq_iff_iff, List.any_eq_true, Bool.and_eq_true]
  constructor
  · rintro ⟨x, hx, e⟩
    rw [Bool.and_eq_true] at e
    have e1 := of_decide_eq_true e.1
    have e2 := of_decide_eq_true e.2
    obtain ⟨q1, q2⟩ := hmem x hx
    rw [e1] at q1
    rw [q1, ← e2]
    exact ⟨rfl, q2⟩
  · rintro ⟨h1, h2⟩
    obtain ⟨u, hu⟩ := Option.isSome_iff_exists.1 h1
    rw [hu] at hv
    have e : v = u := hv
    subst e
    refine ⟨(k, v), List.mem_filter.2 ⟨?_, by simp [hP]⟩, by simp⟩
    unfold walkD
    have hne : ofD D k ≠ [] := fun e => by rw [e] at hu; simp [atV, cutV] at hu
    obtain ⟨r, hr, hr1⟩ := List.mem_map.1 ((there_iff h k).2 hne)
    refine List.mem_filterMap.2 ⟨r, hr, ?_⟩
    have e2 := ofD_mem h hr
    rw [hr1] at e2
    unfold liveAt
    rw [← e2, hu, hr1]
    simp [h2]

/-- How far the versions at or below t go. -/
theorem cut_step {l : List Vr} (hr : RiseV l) {t : Int} {n : Nat} (h1 : ∀ i, (h : i < l.length) → i < n → (l[i]).stamp ≤ t) (hn : n ≤ l.length) (h2 : n < l.length → ∀ h : n < l.length, t < (l[n]).stamp) : cutV l t = n := by
  refine cutV_uniq hr hn h1 fun i hi hni => ?_
  have := h2 (by omega) (by omega)
  rcases Nat.lt_or_ge n i with q | q
  · have := rise_lt hr q hi; omega
  · have e : i = n := by omega
    subst e; exact this

end Go.Proofs.YticfpkodoghnnaaGreat

/-
  What foliolaw14's 'fixed' answers (stage 14).
-/
namespace Go.Proofs.YticfpkodoghnnaaGreat
open Go.RowKit

/-- What fixed answers. -/
def Fixed14 : Prop := ∀ W : World, Calls Tryz.prog 8 #[] W fun e w' => e = .returned (.bool true) ∧ Below W.heap.size W w'

end Go.Proofs.YticfpkodoghnnaaGreat

/-
  'l = append(l, x)' up to what a machine holds, by Go's own rule of growing. No program.
-/
namespace Go.Proofs.YticfpkodoghnnaaGreat
open Go.RowKit

section
variable {P : Program} {α : Type} {w : World} {o : Oper} {a : Act} {Q : Exit → Act → World → Prop}
/-- At the operation. -/
theorem wp_push_wide {Kx : Act → World → Prop} (K : Kind α) (s x : Operand) (t : TypeId) (ho : o.op = .call { callee := .builtin .append, args := #[s, x], argTypes := #[t, t] })
    (i : TypeInfo) (z : Value) (bytes : Nat) (ht : P.underlying t = some (.slice K.T)) (hi : P.info? K.T = some i) (hz : i.zero = some z) (hsize : i.size = K.k) (hby : i.bytes = bytes) (hzs : z.cells.size = K.k)
    (N : Nat) (W : World) (v : Value) (l : List α) (hs : a.eval s = v) (hst : RowSt K N W v l w) (y : α) (B m c : Nat) (hm : m = 1) (hx : a.eval x = .slice (some ⟨B, 0, none⟩) m c) (te : TypeId) (fz : Nat × Nat) (hB : w.heap[B]? = some (.cells (K.enc y).toArray te fz))
    (hlen : l.length + 1 ≤ maxLen) (hbytes : ((l.length + 1) + (l.length + 1) / 4 + 192) * bytes ≤ 281474976710656)
    (h : ∀ g cap w', RowSt K N W (.slice (some ⟨g, 0, none⟩) (l.length + 1) cap) (l ++ [y]) w' → w.grownBy w' v.ownBlock → Kx (a.put o.dst (.slice (some ⟨g, 0, none⟩) (l.length + 1) cap)) w') :
    Oper.wp P o a w Kx Q := by
  subst hm
  refine wp_append_own_wide w s x t ho N K.T i z K.k bytes ht hi hz hsize hby hzs K.pos v l.length (K.cells l) hs hst.own ⟨B, 0, none⟩ 1 c (K.cells [y]) hx ?_ (news_box K hB) (K.cells_ones _) hlen hbytes hst.base ?_
  · rw [K.cells_len]; rfl
  · intro v' w' h1 h2 _
    obtain ⟨g, cap, rfl, _, _⟩ := h1.form (by omega)
    exact h g cap w' (hst.push h1 h2) h2
/-- At a plain region's list. -/
theorem wpList_push_wide {ops : Array Oper} {rest : List Oper} (K : Kind α) (hgd : o.guard = none) (s x : Operand) (t : TypeId) (ho : o.op = .call { callee := .builtin .append, args := #[s, x], argTypes := #[t, t] })
    (i : TypeInfo) (z : Value) (bytes : Nat) (ht : P.underlying t = some (.slice K.T)) (hi : P.info? K.T = some i) (hz : i.zero = some z) (hsize : i.size = K.k) (hby : i.bytes = bytes) (hzs : z.cells.size = K.k)
    (N : Nat) (W : World) (v : Value) (l : List α) (hs : a.eval s = v) (hst : RowSt K N W v l w) (y : α) (B m c : Nat) (hm : m = 1) (hx : a.eval x = .slice (some ⟨B, 0, none⟩) m c) (te : TypeId) (fz : Nat × Nat) (hB : w.heap[B]? = some (.cells (K.enc y).toArray te fz))
    (hlen : l.length + 1 ≤ maxLen) (hbytes : ((l.length + 1) + (l.length + 1) / 4 + 192) * bytes ≤ 281474976710656)
    (h : ∀ g cap w', RowSt K N W (.slice (some ⟨g, 0, none⟩) (l.length + 1) cap) (l ++ [y]) w' → w.grownBy w' v.ownBlock → wpList P ops Q rest (a.put o.dst (.slice (some ⟨g, 0, none⟩) (l.length + 1) cap)) w') : wpList P ops Q (o :: rest) a w :=
  wpList_plain hgd fun _ hK => wp_push_wide K s x t ho i z bytes ht hi hz hsize hby hzs N W v l hs hst y B m c hm hx te fz hB hlen hbytes fun g cap w' h1 h2 => hK _ _ (h g cap w' h1 h2)
end

end Go.Proofs.YticfpkodoghnnaaGreat

/-
  PastLogs (stage 14), at package past as it landed.
-/
namespace Go.Proofs.YticfpkodoghnnaaGreat
open Go.RowKit

theorem wrap14 (n : Int) (h0 : 0 ≤ n) (h1 : n ≤ 2400000000000) : wrap64 n = n ∧ IntKind.i64.wrap n = n := by
  refine ⟨?_, ?_⟩
  · simp [wrap64]; omega
  · rw [IntKind.wrap_i64]; omega
theorem look14 {n i k cu : Nat} (hn : n ≤ 2400000000000) (hik : i = k + 1) (hin : i ≤ n) (hcu : n ≤ cu) : decide ((0 : Int) < (i : Int)) = true ∧ decide (0 < i) = true ∧ (i : Int) - 1 = (k : Int) ∧ IntKind.i64.wrap ((i : Int) - 1) = (k : Int) ∧ wrap64 ((i : Int) - 1) = (k : Int) ∧ IntKind.i64.wrap (k : Int) = (k : Int) ∧ wrap64 (k : Int) = (k : Int) ∧ (0 : Int) ≤ (k : Int) ∧ (k : Int) < (n : Int) ∧ (0 : Int) ≤ (i : Int) ∧ (i : Int) ≤ (n : Int) ∧ (n : Int) ≤ (cu : Int) ∧ (i : Int) ≤ (cu : Int) := by
  obtain ⟨h1, h2⟩ := wrap14 (k : Int) (by omega) (by omega)
  have h3 : (i : Int) - 1 = (k : Int) := by omega
  refine ⟨decide_eq_true (by omega), decide_eq_true (by omega), h3, by rw [h3]; exact h2, by rw [h3]; exact h1, h2, h1, by omega, by omega, by omega, by omega, by omega, by omega⟩

/-- What was told of a key, as PastLogs holds it: the log fs, the history h, all of them, the version at t. -/
structure Logs14 (D : List RowD) (k : Ky) (sn t : Int) (fs : List Fd) (hs al : List Vx) (x : Vx) (code : Int) : Prop where
  logT : ∀ f ∈ fs, t < f.v.stamp ∧ f.v.stamp ≤ sn ∧ f.a = k.1
  logK : ((fs.filter fun f => decide ((f.a, f.b) = k)).map Fd.v).map Vx.ver = hs.map Vx.ver
  drop : (al.drop (cutV (al.map Vx.ver) t)).map Vx.ver = hs.map Vx.ver
  cut : ∀ i, (hi : i < al.length) → ((al[i]).stamp ≤ t ↔ i < cutV (al.map Vx.ver) t)
  le : cutV (al.map Vx.ver) t ≤ al.length
  codes : (code = 0 ∧ 0 < cutV (al.map Vx.ver) t) ∨ (code = 6 ∧ cutV (al.map Vx.ver) t = 0)
  last : ∀ m, cutV (al.map Vx.ver) t = m + 1 → ∃ hm : m < al.length, x.ver = (al[m]).ver
  there : ∀ ls : List Fd, ls.map Fd.fnd = scanD D k.1 (min t sn) (matchM []) → (ls.any fun f => decide ((f.a, f.b) = k) && decide (f.v.ver = x.ver)) = (decide (code = 0) && x.live)

theorem logs14 {D : List RowD} (h : OkD D) {k : Ky} {sn t : Int} {L : List Fnd × Int} (ht : 0 ≤ t) {fs : List Fd} {hs al : List Vx} {x : Vx} (hL : PastSince D 0 sn k.1 t L) (hfs : fs.map Fd.fnd = L.1) (hhs : hs.map Vx.ver = (pastHist D 0 sn k t).1) (hal : al.map Vx.ver = (pastHist D 0 sn k 0).1) (hx : x.ver = (pastAt D 0 sn t k).1.getD zeroV) : Logs14 D k sn t fs hs al x (pastAt D 0 sn t k).2 := by
  have hok := ofD_ok h k
  have hnt : ¬ t < 0 := by omega
  unfold PastSince at hL
  rw [if_neg hnt] at hL
  obtain ⟨_, r, hp, hsr, hL1⟩ := hL
  rw [hL1] at hfs
  unfold pastHist at hhs hal
  rw [if_neg hnt] at hhs
  rw [if_neg (by omega)] at hal
  simp only at hhs hal
  rw [hist_all hok] at hal
  have hrise : RiseV (al.map Vx.ver) := by rw [hal]; unfold allV; exact hok.rise.take
  have hdrop := hist_drop hok sn t
  have hat := at_all hok sn t
  rw [← hal] at hdrop hat
  have hpa : pastAt D 0 sn t k = match atV (ofD D k) (min t sn) with | some v => (some v, 0) | none => (none, 6) := by unfold pastAt; rw [if_neg hnt]; rfl
  refine ⟨fun f hf => ?_, ?_, ?_, fun i hi => ?_, ?_, ?_, fun m hm => ?_, fun ls hls => ?_⟩
  · have := log_mem h hp (s := sn) f.fnd (by rw [← hfs]; exact List.mem_map.2 ⟨f, hf, rfl⟩)
    exact this
  · rw [hhs, ← log_of h hp hsr, ← hfs]
    rw [List.filter_map, List.map_map, List.map_map]
    rfl
  · rw [List.map_drop, ← hdrop, hhs]
  · have hi' : i < (al.map Vx.ver).length := by rw [List.length_map]; exact hi
    have e : (al[i]).stamp = ((al.map Vx.ver)[i]).stamp := by rw [List.getElem_map]; rfl
    rw [e]
    constructor
    · intro q
      exact Nat.lt_of_not_le fun q2 => by have := cutV_above _ hrise t i hi' q2; omega
    · intro q
      exact cutV_below _ t i hi' q
  · have := cutV_le (al.map Vx.ver) t
    rwa [List.length_map] at this
  · rw [hpa, hat]
    by_cases h0 : cutV (al.map Vx.ver) t = 0
    · rw [if_pos h0]; exact Or.inr ⟨rfl, h0⟩
    · rw [if_neg h0]
      have hlt : cutV (al.map Vx.ver) t - 1 < (al.map Vx.ver).length := by have := cutV_le (al.map Vx.ver) t; omega
      rw [List.getElem?_eq_getElem hlt]
      exact Or.inl ⟨rfl, by omega⟩
  · have hlt : m < (al.map Vx.ver).length := by have := cutV_le (al.map Vx.ver) t; omega
    refine ⟨by rwa [List.length_map] at hlt, ?_⟩
    rw [hx, hpa, hat, if_neg (by omega), hm, Nat.add_sub_cancel, List.getElem?_eq_getElem hlt, List.getElem_map]
    rfl
  · have hv : x.ver = (atV (ofD D k) (min t sn)).getD zeroV := by
      rw [hx, hpa]
      cases atV (ofD D k) (min t sn) <;> rfl
    have := scan_there h k (min t sn) (P := matchM []) (fun _ => rfl) x.ver hv
    rw [← hls, List.any_map] at this
    have e : (ls.any fun f => decide ((f.a, f.b) = k) && decide (f.v.ver = x.ver)) = ls.any ((fun y : Fnd => decide (y.1 = k) && decide (y.2 = x.ver)) ∘ Fd.fnd) := rfl
    rw [e, this]
    have e2 : x.ver.live = x.live := rfl
    rw [e2, hpa]
    cases atV (ofD D k) (min t sn) <;> rfl

set_option linter.unusedSimpArgs false in
set_option maxHeartbeats 32000000 in
set_option maxRecDepth 100000 in
theorem logs14_any (HFX : Fixed14) (v : Value) (l : List Pt) (q : Ak) (w : World) (hv : KPt.Is w v l) (hx : ∀ x ∈ l, PtIn w x) (hq : AkIn w q) (hl : l.length ≤ 1760000000000) :
    Calls Tryz.prog 7 #[v, .agg (encAk q).toArray] w fun e w' => e = .returned (.bool true) ∧ Below w.heap.size w w' := by
  obtain ⟨hb0, h0, hs0⟩ := one_box14 w (encAk q).toArray 34
  obtain ⟨V, hV⟩ : ∃ V, w.alloc (.cells (encAk q).toArray 34) = V := ⟨_, rfl⟩
  obtain ⟨Q, hQ⟩ : ∃ Q, w.heap.size = Q := ⟨_, rfl⟩
  rw [hV] at hb0 h0 hs0
  rw [hQ] at h0
  have HL1 : Hid (∀ W, Below w.heap.size w W → Calls Tryz.prog 9 #[v, .bool false] W fun e w' => LaidP W false l e w') := fun W hW => laidP_any v l false W (Kind.is_kept hv hW) (fun x h => (hx x h).on hW) (by omega)
  obtain ⟨p, cap, rfl, hd⟩ := hv
  have HBX : Hid (∀ W', Below V.heap.size V W' → W'.cell? ⟨Q, 0, none⟩ = some (.int .u64 q.fl) ∧ W'.cell? ⟨Q, 1, none⟩ = some (.int .u64 q.sn) ∧ W'.cell? ⟨Q, 2, none⟩ = some (.int .u64 q.t) ∧ W'.cell? ⟨Q, 3, none⟩ = some (.string q.a) ∧ W'.cell? ⟨Q, 4, none⟩ = some (.string q.b)) := fun W' hW => by
    have e1 := (hW.block Q (by rw [hs0, hQ]; omega)).trans h0
    exact ⟨by rw [Lib.cell_of_heap e1]; rfl, by rw [Lib.cell_of_heap e1]; rfl, by rw [Lib.cell_of_heap e1]; rfl, by rw [Lib.cell_of_heap e1]; rfl, by rw [Lib.cell_of_heap e1]; rfl⟩
  have HF := hid (HFX V)
  have HB0 := hid hb0
  have HKF : Hid (FitK (q.a, q.b)) := hq.kfit
  have HT0 : Hid (0 ≤ q.t) := hq.t0.1
  clear hd hx hb0 h0 hs0 hq
  obtain ⟨qfl, qsn, qt, qa, qb, qq, qqc, qtm, qn⟩ := q
  simp only [encAk] at *
  obtain ⟨i0, hi0, hz0, hz1, hz2⟩ := info_parts Tryz.infoVer
  have HI0 := hid hi0
  clear hi0
  go_enter Tryz.func7, Tryz.ntmps7
  go_wp2_with fail
  try rw [hV]
  try rw [hQ]
  clear hV hQ
  refine HF.out.mono ?_
  rintro e w1 ⟨rfl, hb1⟩
  have HB1 := hid hb1
  have HC1 := hid (HL1.out w1 (bel_then HB0.out HB0.out.size hb1))
  clear hb1 HF HL1
  go_wp2_with fail
  refine HC1.out.mono ?_
  rintro e w2 ⟨ga, gh, rfl, hA2⟩
  have hb2 : Below V.heap.size V w2 := bel_then HB1.out HB1.out.size hA2.choose_spec.2
  obtain ⟨DD, hDD⟩ : ∃ DD, laidP false l = DD := ⟨_, rfl⟩
  rw [hDD] at hA2
  obtain ⟨a0, a1, a2, a3, a4⟩ := HBX.out w2 hb2
  obtain ⟨hbw, hw0, hws⟩ := one_box14 w2 #[.int .u64 0, .int .u64 qsn] 36
  obtain ⟨w3, hw3⟩ : ∃ w3, w2.alloc (.cells #[.int .u64 0, .int .u64 qsn] 36) = w3 := ⟨_, rfl⟩
  obtain ⟨X, hX⟩ : ∃ X, w2.heap.size = X := ⟨_, rfl⟩
  rw [hw3] at hbw hw0 hws
  rw [hX] at hw0
  have HK : Hid (∀ W, Below w3.heap.size w3 W → (W.cell? ⟨Q, 0, none⟩ = some (.int .u64 qfl) ∧ W.cell? ⟨Q, 1, none⟩ = some (.int .u64 qsn) ∧ W.cell? ⟨Q, 2, none⟩ = some (.int .u64 qt) ∧ W.cell? ⟨Q, 3, none⟩ = some (.string qa) ∧ W.cell? ⟨Q, 4, none⟩ = some (.string qb)) ∧ (W.cell? ⟨X, 0, none⟩ = some (.int .u64 0) ∧ W.cell? ⟨X, 1, none⟩ = some (.int .u64 qsn)) ∧ DirS w1.heap.size ga l.length DD W) := fun W hW => by
    have h1 : Below w2.heap.size w2 W := bel_then hbw hbw.size hW
    have e1 := (hW.block X (by rw [hws, hX]; omega)).trans hw0
    obtain ⟨B, h2, _⟩ := hA2.on h1
    exact ⟨HBX.out W (bel_then hb2 hb2.size h1), ⟨by rw [Lib.cell_of_heap e1]; rfl, by rw [Lib.cell_of_heap e1]; rfl⟩, h2.dirS⟩
  have HB3 : Hid (Below w.heap.size w w3) := bel_then HB0.out HB0.out.size (bel_then hb2 hb2.size hbw)
  clear hA2 hb2 HC1 HB1 HBX hDD hbw hw0 hws
  go_upto_region 5 with fail
  try rw [hX]
  try rw [hw3]
  clear hw3 hX a0 a1 a2 a3 a4
  obtain ⟨⟨c0, c1, c2, c3, c4⟩, ⟨x0, x1⟩, hds⟩ := HK.out w3 (Below.refl _ _)
  have HSI : Hid (Calls Tryz.prog 20 #[.pointer (some ⟨ga, 0, none⟩), .agg #[.int .u64 0, .int .u64 qsn], .string qa, .int .u64 qt] w3 fun e w' => ∃ L, PastSince DD 0 qsn qa qt L ∧ NwF w3 L e w') := psince_any hds hl 0 qsn qa qt
  have HSL : Hid (∀ L, PastSince DD 0 qsn qa qt L → L.1.length ≤ 1760000000000) := fun L hL => since_len14 hds hl hL
  have HOK := hid hds.ok
  have HHL := hid (hist_len14 hds hl 0 qsn (qa, qb) qt)
  have HAL := hid (hist_len14 hds hl 0 qsn (qa, qb) 0)
  clear hds
  go_wp2_with fail
  refine HSI.out.mono ?_
  rintro e w4 ⟨L, hL, u4, fs, rfl, f1, f2, f3, f4⟩
  obtain ⟨lp, lc, rfl⟩ := Kind.own_shape f1
  have hfl : fs.length ≤ 1760000000000 := by have := HSL.out L hL; rw [← f3, List.length_map] at this; exact this
  have hL2 : L.2 = 0 := by
    have := hL
    unfold PastSince at this
    rw [if_neg (by have := HT0.out; omega)] at this
    exact this.1
  rw [hL2]
  have H4 := hid f4
  have HF1 := hid f1
  have HF2 := hid f2
  have HPL := hid hL
  have HF3 := hid f3
  clear f1 f2 f3 HSI HSL c0 c1 c2 c3 c4 x0 x1 hL hL2
  obtain ⟨⟨c0, c1, c2, c3, c4⟩, ⟨x0, x1⟩, hds⟩ := HK.out w4 f4
  have hp0 : (pastHist DD 0 qsn (qa, qb) qt).2 = 0 := by unfold pastHist; rw [if_neg (by have := HT0.out; omega)]
  have hp1 : (pastHist DD 0 qsn (qa, qb) 0).2 = 0 := by unfold pastHist; rw [if_neg (by omega)]
  have HP0 := hid hp0
  have HP1 := hid hp1
  clear hp0 hp1
  have HHI : Hid (Calls Tryz.prog 17 #[.pointer (some ⟨ga, 0, none⟩), .agg #[.int .u64 0, .int .u64 qsn], .agg #[.string qa, .string qb], .int .u64 qt] w4 fun e w' => NwVs w4 (pastHist DD 0 qsn (qa, qb) qt) e w') := phist_any hds hl 0 qsn (qa, qb) qt HKF.out
  clear hds f4
  go_wp2_with fail
  refine HHI.out.mono ?_
  rintro e w5 ⟨u5, hs, rfl, v1, v2, v3, v4⟩
  rw [HP0.out]
  obtain ⟨hp, hc, rfl⟩ := Kind.own_shape v1
  have hhl : hs.length ≤ 2400000000000 := by have := HHL.out; rw [← v3, List.length_map] at this; exact this
  have b35 : Below w3.heap.size w3 w5 := bel_then H4.out H4.out.size v4
  have H5 := hid v4
  have HV1 := hid v1
  have HV2 := hid v2
  have HV3 := hid v3
  clear v1 v2 v3 v4 HHI HHL c0 c1 c2 c3 c4 x0 x1
  obtain ⟨⟨c0, c1, c2, c3, c4⟩, ⟨x0, x1⟩, hds⟩ := HK.out w5 b35
  have HHI : Hid (Calls Tryz.prog 17 #[.pointer (some ⟨ga, 0, none⟩), .agg #[.int .u64 0, .int .u64 qsn], .agg #[.string qa, .string qb], .int .u64 0] w5 fun e w' => NwVs w5 (pastHist DD 0 qsn (qa, qb) 0) e w') := phist_any hds hl 0 qsn (qa, qb) 0 HKF.out
  have HB35 := hid b35
  clear hds b35
  go_wp2_with fail
  refine HHI.out.mono ?_
  rintro e w6 ⟨u6, al, rfl, s1, s2, s3, s4⟩
  rw [HP1.out]
  obtain ⟨ap, ac, rfl⟩ := Kind.own_shape s1
  have hal : al.length ≤ 2400000000000 := by have := HAL.out; rw [← s3, List.length_map] at this; exact this
  have b36 : Below w3.heap.size w3 w6 := bel_then HB35.out HB35.out.size s4
  have H6 := hid s4
  have HS1 := hid s1
  have HS2 := hid s2
  have HS3 := hid s3
  clear s1 s2 s3 s4 HHI HAL c0 c1 c2 c3 c4 x0 x1 HB35
  obtain ⟨⟨c0, c1, c2, c3, c4⟩, ⟨x0, x1⟩, hds⟩ := HK.out w6 b36
  have HAT : Hid (Calls Tryz.prog 10 #[.pointer (some ⟨ga, 0, none⟩), .agg #[.int .u64 0, .int .u64 qsn], .int .u64 qt, .agg #[.string qa, .string qb]] w6 fun e w' => RdV w6 (pastAt DD 0 qsn qt (qa, qb)) e w') := pat_any hds 0 qsn qt (qa, qb) HKF.out
  have HB36 := hid b36
  clear hds b36
  go_wp2_with fail
  refine HAT.out.mono ?_
  rintro e w7 ⟨x, rfl, hxv, hxr, hb7⟩
  have HLG := hid (logs14 HOK.out HT0.out HPL.out HF3.out HV3.out HS3.out hxv)
  obtain ⟨hbx, hb80, hs8⟩ := one_box14 w7 (encVx x).toArray 39
  obtain ⟨w8, hw8⟩ : ∃ w8, w7.alloc (.cells (encVx x).toArray 39) = w8 := ⟨_, rfl⟩
  obtain ⟨A, hA⟩ : ∃ A, w7.heap.size = A := ⟨_, rfl⟩
  rw [hw8] at hbx hb80 hs8
  rw [hA] at hb80
  generalize (pastAt DD 0 qsn qt (qa, qb)).2 = code at *
  have b68 : Below w6.heap.size w6 w8 := bel_then hb7 hb7.size hbx
  have b38 : Below w3.heap.size w3 w8 := bel_then HB36.out HB36.out.size b68
  have b58 : Below w5.heap.size w5 w8 := bel_then H6.out H6.out.size b68
  have b48 : Below w4.heap.size w4 w8 := bel_then H5.out H5.out.size b58
  /- all that is read from here on, in whatever world -/
  have HFS : Hid (∀ W, Below w8.heap.size w8 W → (fs = [] ∨ ∃ b off, lp = some ⟨b, off, none⟩ ∧ KFd.At W b off fs) ∧ ∀ f ∈ fs, f.v.at W ∧ FitX f.v.o) := fun W hW => by
    have hb := bel_then b48 b48.size hW
    obtain ⟨p', c', e', hd'⟩ := Kind.is_kept (Kind.own_is HF1.out) hb
    injection e' with e1 _ _
    subst e1
    exact ⟨hd', fun f hf => vat_on ⟨(HF2.out f hf).1.1.is, (may_fit (HF2.out f hf).2).1⟩ hb⟩
  have HHS : Hid (∀ W, Below w8.heap.size w8 W → KV.Is W (.slice hp hs.length hc) hs ∧ ∀ y ∈ hs, y.at W ∧ FitX y.o) := fun W hW => by
    have hb := bel_then b58 b58.size hW
    exact ⟨Kind.is_kept (Kind.own_is HV1.out) hb, fun y hy => vat_on ⟨(HV2.out y hy).1.1.is, (may_fit (HV2.out y hy).2).1⟩ hb⟩
  have HAS : Hid (∀ W, Below w8.heap.size w8 W → KV.Own w5.heap.size W (.slice ap al.length ac) al ∧ ∀ y ∈ al, y.at W ∧ FitX y.o) := fun W hW => by
    have hb := bel_then b68 b68.size hW
    exact ⟨Kind.own_on HS1.out hb, fun y hy => vat_on ⟨(HS2.out y hy).1.1.is, (may_fit (HS2.out y hy).2).1⟩ hb⟩
  have HXS : Hid (∀ W, Below w8.heap.size w8 W → W.heap[A]? = some (.cells (encVx x).toArray 39 (0, 0)) ∧ x.at W ∧ FitX x.o) := fun W hW => ⟨(hW.block A (Array.getElem?_eq_some_iff.1 hb80).1).trans hb80, vat_on hxr (bel_then hbx hbx.size hW)⟩
  have HB8 := hid b38
  clear hxv hxr hb7 hbx hb80 hs8 b68 b38 b58 b48 HAT HB36 H4 H5 H6 HF1 HF2 HF3 HV1 HV2 HV3 HS1 HS2 HS3 HPL HP0 HP1 c0 c1 c2 c3 c4 x0 x1
  obtain ⟨xn, xs, xt, xl, xp, xc, xo⟩ := x
  simp only [encVx, Vx.sl] at *
  go_upto_region 9 with fail
  try rw [hA]
  try rw [hw8]
  clear hw8 hA
  go_wp2_with fail
  have HR0 : Hid (RowSt KV w8.heap.size w8 (.slice none 0 0) [] w8) := RowSt.nil KV (Below.refl _ _) (Nat.le_refl _)
  go_loopg [16, 86] fs.length (fun gg v16 vi wr => ∃ (i : Nat) (o : List Vx) (op : Option Addr) (oc : Nat), v16 = .slice op o.length oc ∧ vi = .int .i64 i ∧ i ≤ fs.length ∧ fs.length - i ≤ gg ∧ o.length ≤ i ∧ Hid (RowSt KV w8.heap.size w8 (.slice op o.length oc) o wr ∧ o = ((fs.take i).filter fun f => decide ((f.a, f.b) = (qa, qb))).map Fd.v))
  case atStart => exact ⟨0, [], none, 0, rfl, rfl, by omega, by omega, by simp, HR0.out, by simp⟩
  case round =>
    clear HR0
    obtain ⟨i, o, op, oc, rfl, rfl, hi, hgi, hoi, HI⟩ := hrel
    by_cases hlt : i < fs.length
    · have hltz : (i : Int) < (fs.length : Int) := by omega
      have hiz : (0 : Int) ≤ i := by omega
      obtain ⟨bf, of, rfl, hat⟩ : ∃ b off, lp = some ⟨b, off, none⟩ ∧ KFd.At wr b off fs := by
        rcases (HFS.out wr HI.out.1.bel).1 with h | h
        · rw [h] at hlt; simp at hlt
        · exact h
      obtain ⟨y0, y1, y2, y3, y4, y5, y6⟩ := kfd_at hat i hlt
      have hT := HLG.out.logT _ (List.getElem_mem hlt)
      have HTF : Hid (((fs.take (i + 1)).filter fun f => decide ((f.a, f.b) = (qa, qb))).map Fd.v = ((fs.take i).filter fun f => decide ((f.a, f.b) = (qa, qb))).map Fd.v ++ (if ((fs[i]).a, (fs[i]).b) = (qa, qb) then [(fs[i]).v] else [])) := by
        show _ = _
        rw [List.take_succ_eq_append_getElem hlt, List.filter_append, List.map_append]
        congr 1
        by_cases hk : ((fs[i]).a, (fs[i]).b) = (qa, qb)
        · rw [if_pos hk, List.filter_cons_of_pos (by simpa using hk)]; rfl
        · rw [if_neg hk, List.filter_cons_of_neg (by simpa using hk)]; rfl
      obtain ⟨⟨c0, c1, c2, c3, c4⟩, _, _⟩ := HK.out wr (bel_then HB8.out HB8.out.size HI.out.1.bel)
      clear hat
      generalize fs[i] = z at *
      obtain ⟨za, zb, ⟨zn, zs, zt, zl, zp, zc, zo⟩⟩ := z
      simp only [Vx.sl] at *
      obtain ⟨hT1, hT2, hT3⟩ := hT
      have hT4 := hT3.symm
      clear hT3
      subst hT4
      have hn1 : ¬ zs ≤ qt := by omega
      have hn2 : ¬ zs > qsn := by omega
      clear hT1 hT2
      obtain ⟨w9, hw9⟩ : ∃ w9, wr.alloc (.cells #[.string qa, .string zb, .int .i64 zn, .int .u64 zs, .int .i64 zt, .bool zl, .slice zp zo.length zc] 70) = w9 := ⟨_, rfl⟩
      obtain ⟨Bx, hBx⟩ : ∃ Bx, wr.heap.size = Bx := ⟨_, rfl⟩
      have hbz : w9.heap[Bx]? = some (.cells #[.string qa, .string zb, .int .i64 zn, .int .u64 zs, .int .i64 zt, .bool zl, .slice zp zo.length zc] 70 (0, 0)) := by rw [← hw9, ← hBx]; exact heap_alloc_new wr _
      have hal9 : Below wr.heap.size wr w9 := by rw [← hw9]; exact (Below.refl _ _).alloc (Nat.le_refl _) _
      have HST : Hid (RowSt KV w8.heap.size w8 (.slice op o.length oc) o w9) := HI.out.1.on hal9
      have HOE := hid HI.out.2
      obtain ⟨⟨r0, r1, r2, r3, r4⟩, _, _⟩ := HK.out w9 (bel_then HB8.out HB8.out.size HST.out.bel)
      have d0 : w9.cell? ⟨Bx, 0, none⟩ = some (.string qa) := by rw [Lib.cell_of_heap hbz]; rfl
      have d1 : w9.cell? ⟨Bx, 1, none⟩ = some (.string zb) := by rw [Lib.cell_of_heap hbz]; rfl
      have d2 : w9.cell? ⟨Bx, 2, none⟩ = some (.int .i64 zn) := by rw [Lib.cell_of_heap hbz]; rfl
      have d3 : w9.cell? ⟨Bx, 3, none⟩ = some (.int .u64 zs) := by rw [Lib.cell_of_heap hbz]; rfl
      have d4 : w9.cell? ⟨Bx, 4, none⟩ = some (.int .i64 zt) := by rw [Lib.cell_of_heap hbz]; rfl
      have d5 : w9.cell? ⟨Bx, 5, none⟩ = some (.bool zl) := by rw [Lib.cell_of_heap hbz]; rfl
      have d6 : w9.cell? ⟨Bx, 6, none⟩ = some (.slice zp zo.length zc) := by rw [Lib.cell_of_heap hbz]; rfl
      clear hbz hal9 HI
      go_upto_region 15 with fail
      try rw [hBx]
      try rw [hw9]
      clear hBx hw9 y0 y1 y2 y3 y4 y5 y6 c0 c1 c2 c3 c4
      have heq := fun W => Z.eql_key qa zb qa qb W
      have hqk := Z.eqK_iff (qa, zb) (qa, qb)
      simp only at hqk
      rw [hqk] at heq
      clear hqk
      by_cases hk : (qa, zb) = (qa, qb)
      · rw [decide_eq_true hk] at heq
        have HN : Hid (o ++ [⟨zn, zs, zt, zl, zp, zc, zo⟩] = ((fs.take (i + 1)).filter fun f => decide ((f.a, f.b) = (qa, qb))).map Fd.v) := by
          show _ = _
          rw [HTF.out, if_pos hk, ← HOE.out]
        clear hk HTF HOE
        go_wp2_with (at_builtin; refine wpList_push_wide KV rfl _ _ 51 rfl i0 _ 56 Tryz.underlying51 HI0.out hz0 hz1 hz2 rfl w8.heap.size w8 _ o rfl (HST.out.on ((Below.refl _ _).alloc (Nat.le_refl _) _)) ⟨zn, zs, zt, zl, zp, zc, zo⟩ _ _ _ rfl rfl _ _ (heap_alloc_new _ _) (by unfold maxLen; omega) (by omega) ?_; intro g8 c8 w10 hst10 hg10; have HS10 := hid hst10; clear hst10 hg10)
        go_roundg (fs.length - (i + 1))
        case measure => omega
        exact ⟨i + 1, o ++ [⟨zn, zs, zt, zl, zp, zc, zo⟩], some ⟨g8, 0, none⟩, c8, by rw [List.length_append]; rfl, by go_num, by omega, by omega, by rw [List.length_append, List.length_singleton]; omega, by rw [List.length_append]; exact HS10.out, HN.out⟩
      · rw [decide_eq_false hk] at heq
        have HN : Hid (o = ((fs.take (i + 1)).filter fun f => decide ((f.a, f.b) = (qa, qb))).map Fd.v) := by
          show _ = _
          rw [HTF.out, if_neg hk, ← HOE.out, List.append_nil]
        clear hk HTF HOE
        go_wp2_with fail
        go_roundg (fs.length - (i + 1))
        case measure => omega
        exact ⟨i + 1, o, op, oc, rfl, by go_num, by omega, by omega, by omega, HST.out, HN.out⟩
    · have hltz : ¬ (i : Int) < (fs.length : Int) := by omega
      have hti : fs.take i = fs := List.take_of_length_le (by omega)
      rw [hti] at HI
      have hbr := HI.out.1.bel
      have HOH : Hid (o.map Vx.ver = hs.map Vx.ver) := by show _ = _; rw [HI.out.2]; exact HLG.out.logK
      have HOR : Hid (∀ W, Below wr.heap.size wr W → KV.Is W (.slice op o.length oc) o ∧ ∀ y ∈ o, y.at W ∧ FitX y.o) := fun W hW => by
        refine ⟨Kind.is_kept (Kind.own_is HI.out.1.own) hW, fun y hy => ?_⟩
        rw [HI.out.2] at hy
        obtain ⟨f, hf, rfl⟩ := List.mem_map.1 hy
        exact (HFS.out W (bel_then hbr hbr.size hW)).2 f (List.mem_filter.1 hf).1
      have HBR := hid hbr
      clear hti hbr HI
      have hcu := own_caps (HAS.out w8 (Below.refl _ _)).1
      have hcap := hcu.1
      have hcm : ac ≤ maxLen := by
        rcases (HAS.out w8 (Below.refl _ _)).1.2 with ⟨h1, _⟩ | ⟨_, c, _, h1, _, _, _, h2, _⟩
        · injection h1 with _ _ e; rw [e]; exact Nat.zero_le _
        · injection h1 with _ _ e; rw [e]; exact h2
      unfold maxLen at hcm
      have HPA : Hid (0 < al.length → ∃ b, ap = some ⟨b, 0, none⟩) := fun h0 => by
        rcases (HAS.out w8 (Below.refl _ _)).1.2 with ⟨h, h'⟩ | ⟨b, _, _, h, _⟩
        · omega
        · injection h with h2 _ _; exact ⟨b, h2⟩
      obtain ⟨c, hc⟩ : ∃ c, cutV (al.map Vx.ver) qt = c := ⟨_, rfl⟩
      have hcl : c ≤ al.length := by rw [← hc]; exact HLG.out.le
      have HCT : Hid (∀ i, (hi : i < al.length) → ((al[i]).stamp ≤ qt ↔ i < c)) := by rw [← hc]; exact HLG.out.cut
      have HCD : Hid ((code = 0 ∧ 0 < c) ∨ (code = 6 ∧ c = 0)) := by rw [← hc]; exact HLG.out.codes
      have HLA : Hid (∀ m, c = m + 1 → ∃ hm : m < al.length, Vx.ver ⟨xn, xs, xt, xl, xp, xc, xo⟩ = (al[m]).ver) := by rw [← hc]; exact HLG.out.last
      have HDR : Hid ((al.drop c).map Vx.ver = hs.map Vx.ver) := by rw [← hc]; exact HLG.out.drop
      have HTH := hid HLG.out.there
      clear hcu hc HLG HFS
      obtain ⟨w11, rfl⟩ : ∃ w11, w11 = wr := ⟨_, rfl⟩
      go_upto_block 2 with fail
      go_cut [19] from 124 (fun vn wx => vn = .int .i64 c ∧ Hid (Below w11.heap.size w11 wx))
      case first =>
        go_wp2_with fail
        go_loopg [19] al.length (fun gg vi wr => ∃ i : Nat, vi = .int .i64 i ∧ i ≤ c ∧ c - i ≤ gg ∧ Hid (Below w11.heap.size w11 wr))
        case atStart => exact ⟨0, rfl, by omega, by omega, Below.refl _ _⟩
        case round =>
          obtain ⟨i, rfl, hi, hgi, HI⟩ := hrel
          have hb8 : Below w8.heap.size w8 wr := bel_then HBR.out HBR.out.size HI.out
          obtain ⟨⟨_, _, c2, _, _⟩, _, _⟩ := HK.out wr (bel_then HB8.out HB8.out.size hb8)
          by_cases hlt : i < al.length
          · have hltz : (i : Int) < (al.length : Int) := by omega
            have hiz : (0 : Int) ≤ i := by omega
            have hd3 : decide ((i : Int) < (al.length : Int)) = true := decide_eq_true hltz
            obtain ⟨b, rfl⟩ := HPA.out (by omega)
            have hst := HCT.out i hlt
            have y1 := (kv_at (own_atV (HAS.out wr hb8).1 (by omega)) i hlt).2.1
            rw [Nat.zero_add] at y1
            generalize al[i] = y at *
            obtain ⟨yn, ys, yt, yl, yp, yc, yo⟩ := y
            simp only at y1 hst
            by_cases hic : i < c
            · have hle : ys ≤ qt := hst.2 hic
              have hd4 : decide (ys ≤ qt) = true := decide_eq_true hle
              clear hst hb8
              go_wp2_with fail
              refine wp_region_held_drew (S := fun w' => w'.cell? ⟨b, i * 5 + 1, none⟩ = some (.int .u64 ys) ∧ w'.cell? ⟨Q, 2, none⟩ = some (.int .u64 qt)) (by kernel_rfl) ⟨y1, c2⟩ (fun hHeld => ?_)
              refine take_val (i := 0) (.int .i64 i) rfl (by kernel_rfl) (by kernel_rfl) (by kernel_rfl) (fun _ _ _ h => h) (by rfl) (fun w hSw => by go_simp) hHeld ?_
              simp only [Act.put, List.setIfInBounds_toArray, List.set_cons_zero, List.set_cons_succ]
              refine take_val (i := 1) (.slice (some ⟨b, 0, none⟩) al.length ac) rfl (by kernel_rfl) (by kernel_rfl) (by kernel_rfl) (fun _ _ _ h => h) (by rfl) (fun w hSw => by go_simp) hHeld ?_
              simp only [Act.put, List.setIfInBounds_toArray, List.set_cons_zero, List.set_cons_succ]
              refine take_val (i := 2) (.int .i64 al.length) rfl (by kernel_rfl) (by kernel_rfl) (by kernel_rfl) (fun _ _ _ h => h) (by rfl) (fun w hSw => by go_simp) hHeld ?_
              simp only [Act.put, List.setIfInBounds_toArray, List.set_cons_zero, List.set_cons_succ]
              refine take_val (i := 3) (.bool true) rfl (by kernel_rfl) (by kernel_rfl) (by kernel_rfl) (fun _ _ _ h => h) (by rfl) (fun w hSw => by go_simp) hHeld ?_
              simp only [Act.put, List.setIfInBounds_toArray, List.set_cons_zero, List.set_cons_succ]
              refine take_val (i := 4) (.bool true) rfl (by kernel_rfl) (by kernel_rfl) (by kernel_rfl) (fun _ _ _ h => h) (by rfl) (fun w hSw => by go_simp) hHeld ?_
              simp only [Act.put, List.setIfInBounds_toArray, List.set_cons_zero, List.set_cons_succ]
              refine take_val (i := 5) (.slice (some ⟨b, 0, none⟩) al.length ac) rfl (by kernel_rfl) (by kernel_rfl) (by kernel_rfl) (fun _ _ _ h => h) (by rfl) (fun w hSw => by go_simp) hHeld ?_
              simp only [Act.put, List.setIfInBounds_toArray, List.set_cons_zero, List.set_cons_succ]
              refine take_val (i := 6) (.int .i64 i) rfl (by kernel_rfl) (by kernel_rfl) (by kernel_rfl) (fun _ _ _ h => h) (by rfl) (fun w hSw => by go_simp) hHeld ?_
              simp only [Act.put, List.setIfInBounds_toArray, List.set_cons_zero, List.set_cons_succ]
              refine take_val (i := 7) (.pointer (some ⟨b, i * 5, none⟩)) rfl (by kernel_rfl) (by kernel_rfl) (by kernel_rfl) (fun _ _ _ h => h) (by rfl) (fun w hSw => by go_simp) hHeld ?_
              simp only [Act.put, List.setIfInBounds_toArray, List.set_cons_zero, List.set_cons_succ]
              refine take_val (i := 8) (.pointer (some ⟨b, i * 5 + 1, none⟩)) rfl (by kernel_rfl) (by kernel_rfl) (by kernel_rfl) (fun _ _ _ h => h) (by rfl) (fun w hSw => by go_simp) hHeld ?_
              simp only [Act.put, List.setIfInBounds_toArray, List.set_cons_zero, List.set_cons_succ]
              refine take_val (i := 9) (.int .u64 ys) rfl (by kernel_rfl) (by kernel_rfl) (by kernel_rfl) (fun _ _ _ h => h) (by rfl) (fun w hSw => by go_simp) hHeld ?_
              simp only [Act.put, List.setIfInBounds_toArray, List.set_cons_zero, List.set_cons_succ]
              refine take_val (i := 10) (.pointer (some ⟨Q, 2, none⟩)) rfl (by kernel_rfl) (by kernel_rfl) (by kernel_rfl) (fun _ _ _ h => h) (by rfl) (fun w hSw => by go_simp) hHeld ?_
              simp only [Act.put, List.setIfInBounds_toArray, List.set_cons_zero, List.set_cons_succ]
              refine take_val (i := 11) (.int .u64 qt) rfl (by kernel_rfl) (by kernel_rfl) (by kernel_rfl) (fun _ _ _ h => h) (by rfl) (fun w hSw => by go_simp) hHeld ?_
              simp only [Act.put, List.setIfInBounds_toArray, List.set_cons_zero, List.set_cons_succ]
              refine take_val (i := 12) (.bool true) rfl (by kernel_rfl) (by kernel_rfl) (by kernel_rfl) (fun _ _ _ h => h) (by rfl) (fun w hSw => by go_simp) hHeld ?_
              simp only [Act.put, List.setIfInBounds_toArray, List.set_cons_zero, List.set_cons_succ]
              refine take_val (i := 13) (.bool true) rfl (by kernel_rfl) (by kernel_rfl) (by kernel_rfl) (fun _ _ _ h => h) (by rfl) (fun w hSw => by go_simp) hHeld ?_
              simp only [Act.put, List.setIfInBounds_toArray, List.set_cons_zero, List.set_cons_succ]
              refine wpAnyH_done (by kernel_rfl) ?_ _
              clear y1 c2 hHeld
              go_wp2_with fail
              go_roundg (c - (i + 1))
              case measure => omega
              exact ⟨i + 1, by go_num, by omega, by omega, HI.out.drew⟩
            · have hle : ¬ ys ≤ qt := fun h => hic (hst.1 h)
              have hd4 : decide (ys ≤ qt) = false := decide_eq_false hle
              have hic2 : i = c := by omega
              clear hst hb8
              subst hic2
              go_wp2_with fail
              refine wp_region_held_drew (S := fun w' => w'.cell? ⟨b, i * 5 + 1, none⟩ = some (.int .u64 ys) ∧ w'.cell? ⟨Q, 2, none⟩ = some (.int .u64 qt)) (by kernel_rfl) ⟨y1, c2⟩ (fun hHeld => ?_)
              refine take_val (i := 0) (.int .i64 i) rfl (by kernel_rfl) (by kernel_rfl) (by kernel_rfl) (fun _ _ _ h => h) (by rfl) (fun w hSw => by go_simp) hHeld ?_
              simp only [Act.put, List.setIfInBounds_toArray, List.set_cons_zero, List.set_cons_succ]
              refine take_val (i := 1) (.slice (some ⟨b, 0, none⟩) al.length ac) rfl (by kernel_rfl) (by kernel_rfl) (by kernel_rfl) (fun _ _ _ h => h) (by rfl) (fun w hSw => by go_simp) hHeld ?_
              simp only [Act.put, List.setIfInBounds_toArray, List.set_cons_zero, List.set_cons_succ]
              refine take_val (i := 2) (.int .i64 al.length) rfl (by kernel_rfl) (by kernel_rfl) (by kernel_rfl) (fun _ _ _ h => h) (by rfl) (fun w hSw => by go_simp) hHeld ?_
              simp only [Act.put, List.setIfInBounds_toArray, List.set_cons_zero, List.set_cons_succ]
              refine take_val (i := 3) (.bool true) rfl (by kernel_rfl) (by kernel_rfl) (by kernel_rfl) (fun _ _ _ h => h) (by rfl) (fun w hSw => by go_simp) hHeld ?_
              simp only [Act.put, List.setIfInBounds_toArray, List.set_cons_zero, List.set_cons_succ]
              refine take_val (i := 4) (.bool true) rfl (by kernel_rfl) (by kernel_rfl) (by kernel_rfl) (fun _ _ _ h => h) (by rfl) (fun w hSw => by go_simp) hHeld ?_
              simp only [Act.put, List.setIfInBounds_toArray, List.set_cons_zero, List.set_cons_succ]
              refine take_val (i := 5) (.slice (some ⟨b, 0, none⟩) al.length ac) rfl (by kernel_rfl) (by kernel_rfl) (by kernel_rfl) (fun _ _ _ h => h) (by rfl) (fun w hSw => by go_simp) hHeld ?_
              simp only [Act.put, List.setIfInBounds_toArray, List.set_cons_zero, List.set_cons_succ]
              refine take_val (i := 6) (.int .i64 i) rfl (by kernel_rfl) (by kernel_rfl) (by kernel_rfl) (fun _ _ _ h => h) (by rfl) (fun w hSw => by go_simp) hHeld ?_
              simp only [Act.put, List.setIfInBounds_toArray, List.set_cons_zero, List.set_cons_succ]
              refine take_val (i := 7) (.pointer (some ⟨b, i * 5, none⟩)) rfl (by kernel_rfl) (by kernel_rfl) (by kernel_rfl) (fun _ _ _ h => h) (by rfl) (fun w hSw => by go_simp) hHeld ?_
              simp only [Act.put, List.setIfInBounds_toArray, List.set_cons_zero, List.set_cons_succ]
              refine take_val (i := 8) (.pointer (some ⟨b, i * 5 + 1, none⟩)) rfl (by kernel_rfl) (by kernel_rfl) (by kernel_rfl) (fun _ _ _ h => h) (by rfl) (fun w hSw => by go_simp) hHeld ?_
              simp only [Act.put, List.setIfInBounds_toArray, List.set_cons_zero, List.set_cons_succ]
              refine take_val (i := 9) (.int .u64 ys) rfl (by kernel_rfl) (by kernel_rfl) (by kernel_rfl) (fun _ _ _ h => h) (by rfl) (fun w hSw => by go_simp) hHeld ?_
              simp only [Act.put, List.setIfInBounds_toArray, List.set_cons_zero, List.set_cons_succ]
              refine take_val (i := 10) (.pointer (some ⟨Q, 2, none⟩)) rfl (by kernel_rfl) (by kernel_rfl) (by kernel_rfl) (fun _ _ _ h => h) (by rfl) (fun w hSw => by go_simp) hHeld ?_
              simp only [Act.put, List.setIfInBounds_toArray, List.set_cons_zero, List.set_cons_succ]
              refine take_val (i := 11) (.int .u64 qt) rfl (by kernel_rfl) (by kernel_rfl) (by kernel_rfl) (fun _ _ _ h => h) (by rfl) (fun w hSw => by go_simp) hHeld ?_
              simp only [Act.put, List.setIfInBounds_toArray, List.set_cons_zero, List.set_cons_succ]
              refine take_val (i := 12) (.bool false) rfl (by kernel_rfl) (by kernel_rfl) (by kernel_rfl) (fun _ _ _ h => h) (by rfl) (fun w hSw => by go_simp) hHeld ?_
              simp only [Act.put, List.setIfInBounds_toArray, List.set_cons_zero, List.set_cons_succ]
              refine take_val (i := 13) (.bool false) rfl (by kernel_rfl) (by kernel_rfl) (by kernel_rfl) (fun _ _ _ h => h) (by rfl) (fun w hSw => by go_simp) hHeld ?_
              simp only [Act.put, List.setIfInBounds_toArray, List.set_cons_zero, List.set_cons_succ]
              refine wpAnyH_done (by kernel_rfl) ?_ _
              clear y1 c2 hHeld
              go_wp2_with fail
              go_meet
              exact ⟨rfl, HI.out.drew⟩
          · have hltz : ¬ (i : Int) < (al.length : Int) := by omega
            have hd3 : decide ((i : Int) < (al.length : Int)) = false := decide_eq_false hltz
            have hic2 : i = c := by omega
            clear hb8
            subst hic2
            go_wp2_with fail
            refine wp_region_held_drew (S := fun w' => w'.cell? ⟨Q, 2, none⟩ = some (.int .u64 qt)) (by kernel_rfl) c2 (fun hHeld => ?_)
            refine take_val (i := 0) (.int .i64 i) rfl (by kernel_rfl) (by kernel_rfl) (by kernel_rfl) (fun _ _ _ h => h) (by rfl) (fun w hSw => by go_simp) hHeld ?_
            simp only [Act.put, List.setIfInBounds_toArray, List.set_cons_zero, List.set_cons_succ]
            refine take_val (i := 1) (.slice ap al.length ac) rfl (by kernel_rfl) (by kernel_rfl) (by kernel_rfl) (fun _ _ _ h => h) (by rfl) (fun w hSw => by go_simp) hHeld ?_
            simp only [Act.put, List.setIfInBounds_toArray, List.set_cons_zero, List.set_cons_succ]
            refine take_val (i := 2) (.int .i64 al.length) rfl (by kernel_rfl) (by kernel_rfl) (by kernel_rfl) (fun _ _ _ h => h) (by rfl) (fun w hSw => by go_simp) hHeld ?_
            simp only [Act.put, List.setIfInBounds_toArray, List.set_cons_zero, List.set_cons_succ]
            refine take_val (i := 3) (.bool false) rfl (by kernel_rfl) (by kernel_rfl) (by kernel_rfl) (fun _ _ _ h => h) (by rfl) (fun w hSw => by go_simp) hHeld ?_
            simp only [Act.put, List.setIfInBounds_toArray, List.set_cons_zero, List.set_cons_succ]
            refine take_val (i := 4) (.bool false) rfl (by kernel_rfl) (by kernel_rfl) (by kernel_rfl) (fun _ _ _ h => h) (by rfl) (fun w hSw => by go_simp) hHeld ?_
            simp only [Act.put, List.setIfInBounds_toArray, List.set_cons_zero, List.set_cons_succ]
            refine take_not (i := 5) rfl (by kernel_rfl) (by kernel_rfl) (by kernel_rfl) (fun _ _ _ h => h) (by rfl) hHeld ?_
            simp only [Act.put, List.setIfInBounds_toArray, List.set_cons_zero, List.set_cons_succ]
            refine take_not (i := 6) rfl (by kernel_rfl) (by kernel_rfl) (by kernel_rfl) (fun _ _ _ h => h) (by rfl) hHeld ?_
            simp only [Act.put, List.setIfInBounds_toArray, List.set_cons_zero, List.set_cons_succ]
            refine take_not (i := 7) rfl (by kernel_rfl) (by kernel_rfl) (by kernel_rfl) (fun _ _ _ h => h) (by rfl) hHeld ?_
            simp only [Act.put, List.setIfInBounds_toArray, List.set_cons_zero, List.set_cons_succ]
            refine take_not (i := 8) rfl (by kernel_rfl) (by kernel_rfl) (by kernel_rfl) (fun _ _ _ h => h) (by rfl) hHeld ?_
            simp only [Act.put, List.setIfInBounds_toArray, List.set_cons_zero, List.set_cons_succ]
            refine take_not (i := 9) rfl (by kernel_rfl) (by kernel_rfl) (by kernel_rfl) (fun _ _ _ h => h) (by rfl) hHeld ?_
            simp only [Act.put, List.setIfInBounds_toArray, List.set_cons_zero, List.set_cons_succ]
            refine take_not (i := 10) rfl (by kernel_rfl) (by kernel_rfl) (by kernel_rfl) (fun _ _ _ h => h) (by rfl) hHeld ?_
            simp only [Act.put, List.setIfInBounds_toArray, List.set_cons_zero, List.set_cons_succ]
            refine take_not (i := 11) rfl (by kernel_rfl) (by kernel_rfl) (by kernel_rfl) (fun _ _ _ h => h) (by rfl) hHeld ?_
            simp only [Act.put, List.setIfInBounds_toArray, List.set_cons_zero, List.set_cons_succ]
            refine take_not (i := 12) rfl (by kernel_rfl) (by kernel_rfl) (by kernel_rfl) (fun _ _ _ h => h) (by rfl) hHeld ?_
            simp only [Act.put, List.setIfInBounds_toArray, List.set_cons_zero, List.set_cons_succ]
            refine take_val (i := 13) (.bool false) rfl (by kernel_rfl) (by kernel_rfl) (by kernel_rfl) (fun _ _ _ h => h) (by rfl) (fun w hSw => by go_simp) hHeld ?_
            simp only [Act.put, List.setIfInBounds_toArray, List.set_cons_zero, List.set_cons_succ]
            refine wpAnyH_done (by kernel_rfl) ?_ _
            clear c2 hHeld
            go_wp2_with fail
            go_meet
            exact ⟨rfl, HI.out.drew⟩
      case rest =>
        obtain ⟨rfl, HW⟩ := hcut
        clear HCT
        have HSV : Hid (∀ W, Below w11.heap.size w11 W → Calls Tryz.prog 19 #[.slice op o.length oc, .slice hp hs.length hc] W fun e w' => e = .returned (.bool true) ∧ Below W.heap.size W w') := fun W hW => by
          have h8 := bel_then HBR.out HBR.out.size hW
          exact eq14Vs HOH.out (HOR.out W hW).1 (HHS.out W h8).1 (HOR.out W hW).2 (HHS.out W h8).2 (by omega)
        obtain ⟨pt, hpt⟩ : ∃ pt, tailV ap al.length ac c = pt := ⟨_, rfl⟩
        have HST : Hid (∀ W, Below w11.heap.size w11 W → Calls Tryz.prog 19 #[pt, .slice hp hs.length hc] W fun e w' => e = .returned (.bool true) ∧ Below W.heap.size W w') := fun W hW => by
          have h8 := bel_then HBR.out HBR.out.size hW
          have := sameVs_any (tailV ap al.length ac c) (.slice hp hs.length hc) (al.drop c) hs W (tail_is (HAS.out W h8).1 c hcl) (HHS.out W h8).1 (fun y hy => (HAS.out W h8).2 y (List.mem_of_mem_drop hy)) (HHS.out W h8).2 (by rw [List.length_drop]; unfold maxLen; omega)
          rw [decide_eq_true HDR.out, hpt] at this
          exact this
        have HPT := hid hpt
        clear hpt HOH HOR HDR
        have HWB : Hid (∀ W, Below wc.heap.size wc W → Below w11.heap.size w11 W) := fun W hW => bel_then HW.out HW.out.size hW
        have HXC : Hid (∀ W, Below w11.heap.size w11 W → W.cell? ⟨A, 0, none⟩ = some (.int .i64 xn) ∧ W.cell? ⟨A, 1, none⟩ = some (.int .u64 xs) ∧ W.cell? ⟨A, 2, none⟩ = some (.int .i64 xt) ∧ W.cell? ⟨A, 3, none⟩ = some (.bool xl) ∧ W.cell? ⟨A, 4, none⟩ = some (.slice xp xo.length xc)) := fun W hW => by
          have h1 := (HXS.out W (bel_then HBR.out HBR.out.size hW)).1
          exact ⟨by rw [Lib.cell_of_heap h1]; rfl, by rw [Lib.cell_of_heap h1]; rfl, by rw [Lib.cell_of_heap h1]; rfl, by rw [Lib.cell_of_heap h1]; rfl, by rw [Lib.cell_of_heap h1]; rfl⟩
        have j1 : (0 : Int) ≤ (c : Int) := by omega
        have j2 : (c : Int) ≤ (al.length : Int) := by omega
        have j3 : (al.length : Int) ≤ (ac : Int) := by omega
        have j4 : (c : Int) ≤ (ac : Int) := by omega
        go_wp2_with fail
        go_cut [172] from 140 (fun vb wx => vb = .bool false ∧ Hid (Below w11.heap.size w11 wx))
        case first =>
          have HBD : Hid (Below w11.heap.size w11 wc.drew) := HW.out.drew
          rcases Nat.eq_zero_or_pos c with hc0 | hc0
          · have hd1 : decide ((0 : Int) < (c : Int)) = false := decide_eq_false (by omega)
            have hd2 : decide (0 < c) = false := decide_eq_false (by omega)
            have hce : (code == 0) = false := by
              rcases HCD.out with h | h
              · omega
              · rw [h.1]; rfl
            clear hc0 HCD HLA HTH
            refine wp_region_held_drew (S := fun _ => True) (by kernel_rfl) trivial (fun hHeld => ?_)
            refine take_val (i := 0) (.slice op o.length oc) rfl (by kernel_rfl) (by kernel_rfl) (by kernel_rfl) (fun _ _ _ h => h) (by rfl) (fun w hSw => by go_simp) hHeld ?_
            simp only [Act.put, List.setIfInBounds_toArray, List.set_cons_zero, List.set_cons_succ]
            refine take_val (i := 1) (.slice hp hs.length hc) rfl (by kernel_rfl) (by kernel_rfl) (by kernel_rfl) (fun _ _ _ h => h) (by rfl) (fun w hSw => by go_simp) hHeld ?_
            simp only [Act.put, List.setIfInBounds_toArray, List.set_cons_zero, List.set_cons_succ]
            refine wpAnyH_ready (rs := [2]) (by kernel_rfl) (by simp) ?_
            refine AllReadyH.cons (at_drop0 rfl) (fun K hK => ?_) AllReadyH.nil
            rw [if_pos (by rfl)]
            go_simp
            refine (HSV.out _ HBD.out).mono ?_
            rintro e wd ⟨rfl, hb⟩
            have HB_wd := hid (bel_then HBD.out HBD.out.size hb)
            clear hb
            go_wp2_with fail
            refine hK.out _ _ trivial (fun hHeld => ?_)
            clear hK K
            try simp only [Act.put, List.setIfInBounds_toArray, List.set_cons_zero, List.set_cons_succ]
            refine take_val (i := 3) (.bool false) rfl (by kernel_rfl) (by kernel_rfl) (by kernel_rfl) (fun _ _ _ h => h) (by rfl) (fun w hSw => by go_simp) hHeld ?_
            simp only [Act.put, List.setIfInBounds_toArray, List.set_cons_zero, List.set_cons_succ]
            refine take_val (i := 4) (.bool false) rfl (by kernel_rfl) (by kernel_rfl) (by kernel_rfl) (fun _ _ _ h => h) (by rfl) (fun w hSw => by go_simp) hHeld ?_
            simp only [Act.put, List.setIfInBounds_toArray, List.set_cons_zero, List.set_cons_succ]
            refine take_val (i := 5) (.int .i64 code) rfl (by kernel_rfl) (by kernel_rfl) (by kernel_rfl) (fun _ _ _ h => h) (by rfl) (fun w hSw => by go_simp) hHeld ?_
            simp only [Act.put, List.setIfInBounds_toArray, List.set_cons_zero, List.set_cons_succ]
            refine take_val (i := 6) (.bool false) rfl (by kernel_rfl) (by kernel_rfl) (by kernel_rfl) (fun _ _ _ h => h) (by rfl) (fun w hSw => by go_simp) hHeld ?_
            simp only [Act.put, List.setIfInBounds_toArray, List.set_cons_zero, List.set_cons_succ]
            refine take_val (i := 7) (.int .i64 c) rfl (by kernel_rfl) (by kernel_rfl) (by kernel_rfl) (fun _ _ _ h => h) (by rfl) (fun w hSw => by go_simp) hHeld ?_
            simp only [Act.put, List.setIfInBounds_toArray, List.set_cons_zero, List.set_cons_succ]
            refine take_val (i := 8) (.bool false) rfl (by kernel_rfl) (by kernel_rfl) (by kernel_rfl) (fun _ _ _ h => h) (by rfl) (fun w hSw => by go_simp) hHeld ?_
            simp only [Act.put, List.setIfInBounds_toArray, List.set_cons_zero, List.set_cons_succ]
            refine take_val (i := 9) (.bool false) rfl (by kernel_rfl) (by kernel_rfl) (by kernel_rfl) (fun _ _ _ h => h) (by rfl) (fun w hSw => by go_simp) hHeld ?_
            simp only [Act.put, List.setIfInBounds_toArray, List.set_cons_zero, List.set_cons_succ]
            refine take_val (i := 10) (.bool false) rfl (by kernel_rfl) (by kernel_rfl) (by kernel_rfl) (fun _ _ _ h => h) (by rfl) (fun w hSw => by go_simp) hHeld ?_
            simp only [Act.put, List.setIfInBounds_toArray, List.set_cons_zero, List.set_cons_succ]
            refine take_val (i := 11) (.bool false) rfl (by kernel_rfl) (by kernel_rfl) (by kernel_rfl) (fun _ _ _ h => h) (by rfl) (fun w hSw => by go_simp) hHeld ?_
            simp only [Act.put, List.setIfInBounds_toArray, List.set_cons_zero, List.set_cons_succ]
            refine take_val (i := 12) (.int .i64 c) rfl (by kernel_rfl) (by kernel_rfl) (by kernel_rfl) (fun _ _ _ h => h) (by rfl) (fun w hSw => by go_simp) hHeld ?_
            simp only [Act.put, List.setIfInBounds_toArray, List.set_cons_zero, List.set_cons_succ]
            refine take_val (i := 13) (.bool false) rfl (by kernel_rfl) (by kernel_rfl) (by kernel_rfl) (fun _ _ _ h => h) (by rfl) (fun w hSw => by go_simp) hHeld ?_
            simp only [Act.put, List.setIfInBounds_toArray, List.set_cons_zero, List.set_cons_succ]
            refine take_val (i := 14) (.bool false) rfl (by kernel_rfl) (by kernel_rfl) (by kernel_rfl) (fun _ _ _ h => h) (by rfl) (fun w hSw => by go_simp) hHeld ?_
            simp only [Act.put, List.setIfInBounds_toArray, List.set_cons_zero, List.set_cons_succ]
            refine take_not (i := 15) rfl (by kernel_rfl) (by kernel_rfl) (by kernel_rfl) (fun _ _ _ h => h) (by rfl) hHeld ?_
            simp only [Act.put, List.setIfInBounds_toArray, List.set_cons_zero, List.set_cons_succ]
            refine take_not (i := 16) rfl (by kernel_rfl) (by kernel_rfl) (by kernel_rfl) (fun _ _ _ h => h) (by rfl) hHeld ?_
            simp only [Act.put, List.setIfInBounds_toArray, List.set_cons_zero, List.set_cons_succ]
            refine take_not (i := 17) rfl (by kernel_rfl) (by kernel_rfl) (by kernel_rfl) (fun _ _ _ h => h) (by rfl) hHeld ?_
            simp only [Act.put, List.setIfInBounds_toArray, List.set_cons_zero, List.set_cons_succ]
            refine take_not (i := 18) rfl (by kernel_rfl) (by kernel_rfl) (by kernel_rfl) (fun _ _ _ h => h) (by rfl) hHeld ?_
            simp only [Act.put, List.setIfInBounds_toArray, List.set_cons_zero, List.set_cons_succ]
            refine take_not (i := 19) rfl (by kernel_rfl) (by kernel_rfl) (by kernel_rfl) (fun _ _ _ h => h) (by rfl) hHeld ?_
            simp only [Act.put, List.setIfInBounds_toArray, List.set_cons_zero, List.set_cons_succ]
            refine take_not (i := 20) rfl (by kernel_rfl) (by kernel_rfl) (by kernel_rfl) (fun _ _ _ h => h) (by rfl) hHeld ?_
            simp only [Act.put, List.setIfInBounds_toArray, List.set_cons_zero, List.set_cons_succ]
            refine take_not (i := 21) rfl (by kernel_rfl) (by kernel_rfl) (by kernel_rfl) (fun _ _ _ h => h) (by rfl) hHeld ?_
            simp only [Act.put, List.setIfInBounds_toArray, List.set_cons_zero, List.set_cons_succ]
            refine take_not (i := 22) rfl (by kernel_rfl) (by kernel_rfl) (by kernel_rfl) (fun _ _ _ h => h) (by rfl) hHeld ?_
            simp only [Act.put, List.setIfInBounds_toArray, List.set_cons_zero, List.set_cons_succ]
            refine take_val (i := 23) (.bool false) rfl (by kernel_rfl) (by kernel_rfl) (by kernel_rfl) (fun _ _ _ h => h) (by rfl) (fun w hSw => by go_simp) hHeld ?_
            simp only [Act.put, List.setIfInBounds_toArray, List.set_cons_zero, List.set_cons_succ]
            refine take_val (i := 24) (.bool false) rfl (by kernel_rfl) (by kernel_rfl) (by kernel_rfl) (fun _ _ _ h => h) (by rfl) (fun w hSw => by go_simp) hHeld ?_
            simp only [Act.put, List.setIfInBounds_toArray, List.set_cons_zero, List.set_cons_succ]
            refine take_val (i := 25) (.bool false) rfl (by kernel_rfl) (by kernel_rfl) (by kernel_rfl) (fun _ _ _ h => h) (by rfl) (fun w hSw => by go_simp) hHeld ?_
            simp only [Act.put, List.setIfInBounds_toArray, List.set_cons_zero, List.set_cons_succ]
            refine take_val (i := 26) (.slice ap al.length ac) rfl (by kernel_rfl) (by kernel_rfl) (by kernel_rfl) (fun _ _ _ h => h) (by rfl) (fun w hSw => by go_simp) hHeld ?_
            simp only [Act.put, List.setIfInBounds_toArray, List.set_cons_zero, List.set_cons_succ]
            refine take_val (i := 27) (.int .i64 c) rfl (by kernel_rfl) (by kernel_rfl) (by kernel_rfl) (fun _ _ _ h => h) (by rfl) (fun w hSw => by go_simp) hHeld ?_
            simp only [Act.put, List.setIfInBounds_toArray, List.set_cons_zero, List.set_cons_succ]
            refine take_val (i := 28) (pt) rfl (by kernel_rfl) (by kernel_rfl) (by kernel_rfl) (fun _ _ _ h => h) (by rfl) (fun w hSw => by rw [← HPT.out]; unfold tailV; go_simp) hHeld ?_
            simp only [Act.put, List.setIfInBounds_toArray, List.set_cons_zero, List.set_cons_succ]
            refine take_val (i := 29) (.slice hp hs.length hc) rfl (by kernel_rfl) (by kernel_rfl) (by kernel_rfl) (fun _ _ _ h => h) (by rfl) (fun w hSw => by go_simp) hHeld ?_
            simp only [Act.put, List.setIfInBounds_toArray, List.set_cons_zero, List.set_cons_succ]
            refine wpAnyH_ready (rs := [30]) (by kernel_rfl) (by simp) ?_
            refine AllReadyH.cons (at_drop0 rfl) (fun K hK => ?_) AllReadyH.nil
            rw [if_pos (by rfl)]
            go_simp
            refine (HST.out _ HB_wd.out).mono ?_
            rintro e we ⟨rfl, hb⟩
            have HB_we := hid (bel_then HB_wd.out HB_wd.out.size hb)
            clear hb
            go_wp2_with fail
            refine hK.out _ _ trivial (fun hHeld => ?_)
            clear hK K
            try simp only [Act.put, List.setIfInBounds_toArray, List.set_cons_zero, List.set_cons_succ]
            refine take_val (i := 31) (.bool false) rfl (by kernel_rfl) (by kernel_rfl) (by kernel_rfl) (fun _ _ _ h => h) (by rfl) (fun w hSw => by go_simp) hHeld ?_
            simp only [Act.put, List.setIfInBounds_toArray, List.set_cons_zero, List.set_cons_succ]
            refine take_val (i := 32) (.bool false) rfl (by kernel_rfl) (by kernel_rfl) (by kernel_rfl) (fun _ _ _ h => h) (by rfl) (fun w hSw => by go_simp) hHeld ?_
            simp only [Act.put, List.setIfInBounds_toArray, List.set_cons_zero, List.set_cons_succ]
            refine wpAnyH_done (by kernel_rfl) ?_ _
            clear hHeld hd1 hd2 hce
            go_wp2_with fail
            go_meet
            exact ⟨rfl, HB_we.out⟩
          · obtain ⟨m, hm⟩ : ∃ m, c = m + 1 := ⟨c - 1, by omega⟩
            obtain ⟨hml, hxm⟩ := HLA.out m hm
            have hce : (code == 0) = true := by
              rcases HCD.out with h | h
              · rw [h.1]; rfl
              · omega
            obtain ⟨b, hb0⟩ := HPA.out (by omega)
            have HAP := hid hb0
            have HYV : Hid (∀ W, Below w11.heap.size w11 W → CellsV W b (m * 5) al[m] ∧ Calls Tryz.prog 12 #[.agg #[.int .i64 xn, .int .u64 xs, .int .i64 xt, .bool xl, .slice xp xo.length xc], .agg (encVx al[m]).toArray] W fun e w' => e = .returned (.bool true) ∧ Below W.heap.size W w') := fun W hW => by
              have h8 := bel_then HBR.out HBR.out.size hW
              have h2 := kv_at (own_atV (by have := (HAS.out W h8).1; rw [hb0] at this; exact this) (Nat.lt_of_le_of_lt (Nat.zero_le m) hml)) m hml
              rw [Nat.zero_add] at h2
              exact ⟨h2, eq14V (x := ⟨xn, xs, xt, xl, xp, xc, xo⟩) hxm (HXS.out W h8).2 ((HAS.out W h8).2 _ (List.getElem_mem hml))⟩
            obtain ⟨hd1, hd2, hiz, hwi, hwi', hwk, hwk', k0, kl, _, _, _, _⟩ := look14 hal hm hcl hcap
            clear hc0 HCD HLA HTH hm hxm hb0
            generalize al[m] = y at *
            clear hml
            obtain ⟨yn, ys, yt, yl, yp, yc, yo⟩ := y
            simp only [CellsV, encVx, Vx.sl] at HYV
            refine wp_region_held_drew (S := fun w' => (w'.cell? ⟨A, 0, none⟩ = some (.int .i64 xn) ∧ w'.cell? ⟨A, 1, none⟩ = some (.int .u64 xs) ∧ w'.cell? ⟨A, 2, none⟩ = some (.int .i64 xt) ∧ w'.cell? ⟨A, 3, none⟩ = some (.bool xl) ∧ w'.cell? ⟨A, 4, none⟩ = some (.slice xp xo.length xc)) ∧ w'.cell? ⟨b, m * 5, none⟩ = some (.int .i64 yn) ∧ w'.cell? ⟨b, m * 5 + 1, none⟩ = some (.int .u64 ys) ∧ w'.cell? ⟨b, m * 5 + 2, none⟩ = some (.int .i64 yt) ∧ w'.cell? ⟨b, m * 5 + 3, none⟩ = some (.bool yl) ∧ w'.cell? ⟨b, m * 5 + 4, none⟩ = some (.slice yp yo.length yc)) (by kernel_rfl) ⟨HXC.out _ HBD.out, (HYV.out _ HBD.out).1⟩ (fun hHeld => ?_)
            refine take_val (i := 0) (.slice op o.length oc) rfl (by kernel_rfl) (by kernel_rfl) (by kernel_rfl) (fun _ _ _ h => h) (by rfl) (fun w hSw => by go_simp) hHeld ?_
            simp only [Act.put, List.setIfInBounds_toArray, List.set_cons_zero, List.set_cons_succ]
            refine take_val (i := 1) (.slice hp hs.length hc) rfl (by kernel_rfl) (by kernel_rfl) (by kernel_rfl) (fun _ _ _ h => h) (by rfl) (fun w hSw => by go_simp) hHeld ?_
            simp only [Act.put, List.setIfInBounds_toArray, List.set_cons_zero, List.set_cons_succ]
            refine wpAnyH_ready (rs := [2]) (by kernel_rfl) (by simp) ?_
            refine AllReadyH.cons (at_drop0 rfl) (fun K hK => ?_) AllReadyH.nil
            rw [if_pos (by rfl)]
            go_simp
            refine (HSV.out _ HBD.out).mono ?_
            rintro e wd ⟨rfl, hb⟩
            have HB_wd := hid (bel_then HBD.out HBD.out.size hb)
            clear hb
            go_wp2_with fail
            refine hK.out _ _ (⟨HXC.out _ HB_wd.out, (HYV.out _ HB_wd.out).1⟩) (fun hHeld => ?_)
            clear hK K
            try simp only [Act.put, List.setIfInBounds_toArray, List.set_cons_zero, List.set_cons_succ]
            refine take_val (i := 3) (.bool false) rfl (by kernel_rfl) (by kernel_rfl) (by kernel_rfl) (fun _ _ _ h => h) (by rfl) (fun w hSw => by go_simp) hHeld ?_
            simp only [Act.put, List.setIfInBounds_toArray, List.set_cons_zero, List.set_cons_succ]
            refine take_val (i := 4) (.bool false) rfl (by kernel_rfl) (by kernel_rfl) (by kernel_rfl) (fun _ _ _ h => h) (by rfl) (fun w hSw => by go_simp) hHeld ?_
            simp only [Act.put, List.setIfInBounds_toArray, List.set_cons_zero, List.set_cons_succ]
            refine take_val (i := 5) (.int .i64 code) rfl (by kernel_rfl) (by kernel_rfl) (by kernel_rfl) (fun _ _ _ h => h) (by rfl) (fun w hSw => by go_simp) hHeld ?_
            simp only [Act.put, List.setIfInBounds_toArray, List.set_cons_zero, List.set_cons_succ]
            refine take_val (i := 6) (.bool true) rfl (by kernel_rfl) (by kernel_rfl) (by kernel_rfl) (fun _ _ _ h => h) (by rfl) (fun w hSw => by go_simp) hHeld ?_
            simp only [Act.put, List.setIfInBounds_toArray, List.set_cons_zero, List.set_cons_succ]
            refine take_val (i := 7) (.int .i64 c) rfl (by kernel_rfl) (by kernel_rfl) (by kernel_rfl) (fun _ _ _ h => h) (by rfl) (fun w hSw => by go_simp) hHeld ?_
            simp only [Act.put, List.setIfInBounds_toArray, List.set_cons_zero, List.set_cons_succ]
            refine take_val (i := 8) (.bool true) rfl (by kernel_rfl) (by kernel_rfl) (by kernel_rfl) (fun _ _ _ h => h) (by rfl) (fun w hSw => by go_simp) hHeld ?_
            simp only [Act.put, List.setIfInBounds_toArray, List.set_cons_zero, List.set_cons_succ]
            refine take_val (i := 9) (.bool false) rfl (by kernel_rfl) (by kernel_rfl) (by kernel_rfl) (fun _ _ _ h => h) (by rfl) (fun w hSw => by go_simp) hHeld ?_
            simp only [Act.put, List.setIfInBounds_toArray, List.set_cons_zero, List.set_cons_succ]
            refine take_val (i := 10) (.bool false) rfl (by kernel_rfl) (by kernel_rfl) (by kernel_rfl) (fun _ _ _ h => h) (by rfl) (fun w hSw => by go_simp) hHeld ?_
            simp only [Act.put, List.setIfInBounds_toArray, List.set_cons_zero, List.set_cons_succ]
            refine take_val (i := 11) (.bool false) rfl (by kernel_rfl) (by kernel_rfl) (by kernel_rfl) (fun _ _ _ h => h) (by rfl) (fun w hSw => by go_simp) hHeld ?_
            simp only [Act.put, List.setIfInBounds_toArray, List.set_cons_zero, List.set_cons_succ]
            refine take_val (i := 12) (.int .i64 c) rfl (by kernel_rfl) (by kernel_rfl) (by kernel_rfl) (fun _ _ _ h => h) (by rfl) (fun w hSw => by go_simp) hHeld ?_
            simp only [Act.put, List.setIfInBounds_toArray, List.set_cons_zero, List.set_cons_succ]
            refine take_val (i := 13) (.bool true) rfl (by kernel_rfl) (by kernel_rfl) (by kernel_rfl) (fun _ _ _ h => h) (by rfl) (fun w hSw => by go_simp) hHeld ?_
            simp only [Act.put, List.setIfInBounds_toArray, List.set_cons_zero, List.set_cons_succ]
            refine take_val (i := 14) (.bool true) rfl (by kernel_rfl) (by kernel_rfl) (by kernel_rfl) (fun _ _ _ h => h) (by rfl) (fun w hSw => by go_simp) hHeld ?_
            simp only [Act.put, List.setIfInBounds_toArray, List.set_cons_zero, List.set_cons_succ]
            refine take_val (i := 15) (.agg #[.int .i64 xn, .int .u64 xs, .int .i64 xt, .bool xl, .slice xp xo.length xc]) rfl (by kernel_rfl) (by kernel_rfl) (by kernel_rfl) (fun _ _ _ h => h) (by rfl) (fun w hSw => by go_simp) hHeld ?_
            simp only [Act.put, List.setIfInBounds_toArray, List.set_cons_zero, List.set_cons_succ]
            refine take_val (i := 16) (.slice ap al.length ac) rfl (by kernel_rfl) (by kernel_rfl) (by kernel_rfl) (fun _ _ _ h => h) (by rfl) (fun w hSw => by go_simp) hHeld ?_
            simp only [Act.put, List.setIfInBounds_toArray, List.set_cons_zero, List.set_cons_succ]
            refine take_val (i := 17) (.int .i64 c) rfl (by kernel_rfl) (by kernel_rfl) (by kernel_rfl) (fun _ _ _ h => h) (by rfl) (fun w hSw => by go_simp) hHeld ?_
            simp only [Act.put, List.setIfInBounds_toArray, List.set_cons_zero, List.set_cons_succ]
            refine take_val (i := 18) (.int .i64 m) rfl (by kernel_rfl) (by kernel_rfl) (by kernel_rfl) (fun _ _ _ h => h) (by rfl) (fun w hSw => by go_simp) hHeld ?_
            simp only [Act.put, List.setIfInBounds_toArray, List.set_cons_zero, List.set_cons_succ]
            refine take_val (i := 19) (.pointer (some ⟨b, m * 5, none⟩)) rfl (by kernel_rfl) (by kernel_rfl) (by kernel_rfl) (fun _ _ _ h => h) (by rfl) (fun w hSw => by have hpu := HAP.out; go_simp) hHeld ?_
            simp only [Act.put, List.setIfInBounds_toArray, List.set_cons_zero, List.set_cons_succ]
            refine take_val (i := 20) (.agg #[.int .i64 yn, .int .u64 ys, .int .i64 yt, .bool yl, .slice yp yo.length yc]) rfl (by kernel_rfl) (by kernel_rfl) (by kernel_rfl) (fun _ _ _ h => h) (by rfl) (fun w hSw => by go_simp) hHeld ?_
            simp only [Act.put, List.setIfInBounds_toArray, List.set_cons_zero, List.set_cons_succ]
            refine wpAnyH_ready (rs := [21]) (by kernel_rfl) (by simp) ?_
            refine AllReadyH.cons (at_drop0 rfl) (fun K hK => ?_) AllReadyH.nil
            rw [if_pos (by rfl)]
            go_simp
            refine ((HYV.out _ HB_wd.out).2).mono ?_
            rintro e wf ⟨rfl, hb⟩
            have HB_wf := hid (bel_then HB_wd.out HB_wd.out.size hb)
            clear hb
            go_wp2_with fail
            refine hK.out _ _ (⟨HXC.out _ HB_wf.out, (HYV.out _ HB_wf.out).1⟩) (fun hHeld => ?_)
            clear hK K
            try simp only [Act.put, List.setIfInBounds_toArray, List.set_cons_zero, List.set_cons_succ]
            refine take_val (i := 22) (.bool false) rfl (by kernel_rfl) (by kernel_rfl) (by kernel_rfl) (fun _ _ _ h => h) (by rfl) (fun w hSw => by go_simp) hHeld ?_
            simp only [Act.put, List.setIfInBounds_toArray, List.set_cons_zero, List.set_cons_succ]
            refine take_val (i := 23) (.bool false) rfl (by kernel_rfl) (by kernel_rfl) (by kernel_rfl) (fun _ _ _ h => h) (by rfl) (fun w hSw => by go_simp) hHeld ?_
            simp only [Act.put, List.setIfInBounds_toArray, List.set_cons_zero, List.set_cons_succ]
            refine take_val (i := 24) (.bool false) rfl (by kernel_rfl) (by kernel_rfl) (by kernel_rfl) (fun _ _ _ h => h) (by rfl) (fun w hSw => by go_simp) hHeld ?_
            simp only [Act.put, List.setIfInBounds_toArray, List.set_cons_zero, List.set_cons_succ]
            refine take_val (i := 25) (.bool false) rfl (by kernel_rfl) (by kernel_rfl) (by kernel_rfl) (fun _ _ _ h => h) (by rfl) (fun w hSw => by go_simp) hHeld ?_
            simp only [Act.put, List.setIfInBounds_toArray, List.set_cons_zero, List.set_cons_succ]
            refine take_val (i := 26) (.slice ap al.length ac) rfl (by kernel_rfl) (by kernel_rfl) (by kernel_rfl) (fun _ _ _ h => h) (by rfl) (fun w hSw => by go_simp) hHeld ?_
            simp only [Act.put, List.setIfInBounds_toArray, List.set_cons_zero, List.set_cons_succ]
            refine take_val (i := 27) (.int .i64 c) rfl (by kernel_rfl) (by kernel_rfl) (by kernel_rfl) (fun _ _ _ h => h) (by rfl) (fun w hSw => by go_simp) hHeld ?_
            simp only [Act.put, List.setIfInBounds_toArray, List.set_cons_zero, List.set_cons_succ]
            refine take_val (i := 28) (pt) rfl (by kernel_rfl) (by kernel_rfl) (by kernel_rfl) (fun _ _ _ h => h) (by rfl) (fun w hSw => by rw [← HPT.out]; unfold tailV; go_simp) hHeld ?_
            simp only [Act.put, List.setIfInBounds_toArray, List.set_cons_zero, List.set_cons_succ]
            refine take_val (i := 29) (.slice hp hs.length hc) rfl (by kernel_rfl) (by kernel_rfl) (by kernel_rfl) (fun _ _ _ h => h) (by rfl) (fun w hSw => by go_simp) hHeld ?_
            simp only [Act.put, List.setIfInBounds_toArray, List.set_cons_zero, List.set_cons_succ]
            refine wpAnyH_ready (rs := [30]) (by kernel_rfl) (by simp) ?_
            refine AllReadyH.cons (at_drop0 rfl) (fun K hK => ?_) AllReadyH.nil
            rw [if_pos (by rfl)]
            go_simp
            refine (HST.out _ HB_wf.out).mono ?_
            rintro e we ⟨rfl, hb⟩
            have HB_we := hid (bel_then HB_wf.out HB_wf.out.size hb)
            clear hb
            go_wp2_with fail
            refine hK.out _ _ (⟨HXC.out _ HB_we.out, (HYV.out _ HB_we.out).1⟩) (fun hHeld => ?_)
            clear hK K
            try simp only [Act.put, List.setIfInBounds_toArray, List.set_cons_zero, List.set_cons_succ]
            refine take_val (i := 31) (.bool false) rfl (by kernel_rfl) (by kernel_rfl) (by kernel_rfl) (fun _ _ _ h => h) (by rfl) (fun w hSw => by go_simp) hHeld ?_
            simp only [Act.put, List.setIfInBounds_toArray, List.set_cons_zero, List.set_cons_succ]
            refine take_val (i := 32) (.bool false) rfl (by kernel_rfl) (by kernel_rfl) (by kernel_rfl) (fun _ _ _ h => h) (by rfl) (fun w hSw => by go_simp) hHeld ?_
            simp only [Act.put, List.setIfInBounds_toArray, List.set_cons_zero, List.set_cons_succ]
            refine wpAnyH_done (by kernel_rfl) ?_ _
            clear hHeld hd1 hd2 hiz hwi hwi' hwk hwk' hce
            go_wp2_with fail
            go_meet
            exact ⟨rfl, HB_we.out⟩
        case rest =>
          obtain ⟨rfl, HW2⟩ := hcut
          clear HSV HST HPT HW HWB
          have b3 : Below w3.heap.size w3 wc := bel_then HB8.out HB8.out.size (bel_then HBR.out HBR.out.size HW2.out)
          obtain ⟨⟨c0, c1, c2, c3, c4⟩, ⟨x0, x1⟩, hds⟩ := HK.out wc b3
          have HFI : Hid (Calls Tryz.prog 14 #[.pointer (some ⟨ga, 0, none⟩), .agg #[.int .u64 0, .int .u64 qsn], .int .u64 qt, .string qa, .slice none 0 0] wc fun e w' => NwF wc (pastFind DD 0 qsn qt qa (matchM [])) e w') := pfind_any hds hl 0 qsn qt qa none 0 [] (KM.is_nil _) ⟨by decide, fun x hx => by cases hx⟩
          have HFL := hid (find_len14 hds hl 0 qsn qt qa (matchM []))
          have HPF : Hid (pastFind DD 0 qsn qt qa (matchM []) = (scanD DD qa (min qt qsn) (matchM []), 0)) := by show _ = _; unfold pastFind; rw [if_neg (by have := HT0.out; omega)]
          clear hds b3
          go_wp2_with fail
          refine HFI.out.mono ?_
          rintro e wg ⟨ug, ls, rfl, f1, f2, f3, f4⟩
          have hlen := HFL.out
          rw [← f3, List.length_map] at hlen
          rw [HPF.out] at f3 ⊢
          obtain ⟨gp, gc, rfl⟩ := Kind.own_shape f1
          have bg : Below w11.heap.size w11 wg := bel_then HW2.out HW2.out.size f4
          have HLS : Hid (∀ W, Below wg.heap.size wg W → (ls = [] ∨ ∃ b off, gp = some ⟨b, off, none⟩ ∧ KFd.At W b off ls) ∧ ∀ f ∈ ls, f.v.at W ∧ FitX f.v.o) := fun W hW => by
            obtain ⟨p', c', e', hd'⟩ := Kind.is_kept (Kind.own_is f1) hW
            injection e' with e1 _ _
            subst e1
            exact ⟨hd', fun f hf => vat_on ⟨(f2 f hf).1.1.is, (may_fit (f2 f hf).2).1⟩ hW⟩
          have HTL := hid (HTH.out ls f3)
          have HBG := hid bg
          clear f1 f2 f3 f4 bg HFI HFL HPF HW2 HTH c0 c1 c2 c3 c4 x0 x1
          simp only
          go_wp2_with fail
          go_loopg [22, 186] ls.length (fun gg v22 vi wr => ∃ (i : Nat) (B : Bool), v22 = .bool B ∧ vi = .int .i64 i ∧ i ≤ ls.length ∧ ls.length - i ≤ gg ∧ Hid (Below wg.heap.size wg wr ∧ B = (ls.take i).any fun f => decide ((f.a, f.b) = (qa, qb)) && decide (f.v.ver = Vx.ver ⟨xn, xs, xt, xl, xp, xc, xo⟩)))
          case atStart => exact ⟨0, false, rfl, rfl, by omega, by omega, Below.refl _ _, by simp⟩
          case round =>
            obtain ⟨i, B, rfl, rfl, hi, hgi, HI⟩ := hrel
            have hb11 : Below w11.heap.size w11 wr := bel_then HBG.out HBG.out.size HI.out.1
            by_cases hlt : i < ls.length
            · have hltz : (i : Int) < (ls.length : Int) := by omega
              have hiz : (0 : Int) ≤ i := by omega
              obtain ⟨bf, of, rfl, hat⟩ : ∃ b off, gp = some ⟨b, off, none⟩ ∧ KFd.At wr b off ls := by
                rcases (HLS.out wr HI.out.1).1 with h | h
                · rw [h] at hlt; simp at hlt
                · exact h
              obtain ⟨y0, y1, y2, y3, y4, y5, y6⟩ := kfd_at hat i hlt
              have HZF : Hid (∀ W, Below wg.heap.size wg W → (ls[i]).v.at W ∧ FitX (ls[i]).v.o) := fun W hW => (HLS.out W hW).2 _ (List.getElem_mem hlt)
              have HTK : Hid (((ls.take (i + 1)).any fun f => decide ((f.a, f.b) = (qa, qb)) && decide (f.v.ver = Vx.ver ⟨xn, xs, xt, xl, xp, xc, xo⟩)) = (B || (decide (((ls[i]).a, (ls[i]).b) = (qa, qb)) && decide ((ls[i]).v.ver = Vx.ver ⟨xn, xs, xt, xl, xp, xc, xo⟩)))) := by
                show _ = _
                rw [List.take_succ_eq_append_getElem hlt, List.any_append, ← HI.out.2]
                simp
              clear hat
              generalize ls[i] = z at *
              obtain ⟨za, zb, ⟨zn, zs, zt, zl, zp, zc, zo⟩⟩ := z
              simp only [Vx.sl] at *
              obtain ⟨w9, hw9⟩ : ∃ w9, wr.alloc (.cells #[.string za, .string zb, .int .i64 zn, .int .u64 zs, .int .i64 zt, .bool zl, .slice zp zo.length zc] 70) = w9 := ⟨_, rfl⟩
              obtain ⟨Bx, hBx⟩ : ∃ Bx, wr.heap.size = Bx := ⟨_, rfl⟩
              have hbz : w9.heap[Bx]? = some (.cells #[.string za, .string zb, .int .i64 zn, .int .u64 zs, .int .i64 zt, .bool zl, .slice zp zo.length zc] 70 (0, 0)) := by rw [← hw9, ← hBx]; exact heap_alloc_new wr _
              have hal9 : Below wr.heap.size wr w9 := by rw [← hw9]; exact (Below.refl _ _).alloc (Nat.le_refl _) _
              have HB9 : Hid (Below wg.heap.size wg w9) := bel_then HI.out.1 HI.out.1.size hal9
              have hb119 : Below w11.heap.size w11 w9 := bel_then HBG.out HBG.out.size HB9.out
              obtain ⟨⟨r0, r1, r2, r3, r4⟩, _, _⟩ := HK.out w9 (bel_then HB8.out HB8.out.size (bel_then HBR.out HBR.out.size hb119))
              obtain ⟨u0, u1, u2, u3, u4⟩ := HXC.out w9 hb119
              have HSV : Hid (Calls Tryz.prog 12 #[.agg #[.int .i64 zn, .int .u64 zs, .int .i64 zt, .bool zl, .slice zp zo.length zc], .agg #[.int .i64 xn, .int .u64 xs, .int .i64 xt, .bool xl, .slice xp xo.length xc]] w9 fun e w' => e = .returned (.bool (decide (Vx.ver ⟨zn, zs, zt, zl, zp, zc, zo⟩ = Vx.ver ⟨xn, xs, xt, xl, xp, xc, xo⟩))) ∧ Below w9.heap.size w9 w') := by
                have hz := HZF.out w9 HB9.out
                have hxx := (HXS.out w9 (bel_then HBR.out HBR.out.size hb119)).2
                exact sameV_any ⟨zn, zs, zt, zl, zp, zc, zo⟩ ⟨xn, xs, xt, xl, xp, xc, xo⟩ w9 hz.1 hxx.1 hz.2 hxx.2
              have d0 : w9.cell? ⟨Bx, 0, none⟩ = some (.string za) := by rw [Lib.cell_of_heap hbz]; rfl
              have d1 : w9.cell? ⟨Bx, 1, none⟩ = some (.string zb) := by rw [Lib.cell_of_heap hbz]; rfl
              have d2 : w9.cell? ⟨Bx, 2, none⟩ = some (.int .i64 zn) := by rw [Lib.cell_of_heap hbz]; rfl
              have d3 : w9.cell? ⟨Bx, 3, none⟩ = some (.int .u64 zs) := by rw [Lib.cell_of_heap hbz]; rfl
              have d4 : w9.cell? ⟨Bx, 4, none⟩ = some (.int .i64 zt) := by rw [Lib.cell_of_heap hbz]; rfl
              have d5 : w9.cell? ⟨Bx, 5, none⟩ = some (.bool zl) := by rw [Lib.cell_of_heap hbz]; rfl
              have d6 : w9.cell? ⟨Bx, 6, none⟩ = some (.slice zp zo.length zc) := by rw [Lib.cell_of_heap hbz]; rfl
              clear hbz hal9 HI hb11 hb119 HZF
              go_upto_region 30 with fail
              try rw [hBx]
              try rw [hw9]
              clear hBx hw9 y0 y1 y2 y3 y4 y5 y6
              have heq := fun W => Z.eql_key za zb qa qb W
              have hqk := Z.eqK_iff (za, zb) (qa, qb)
              simp only at hqk
              rw [hqk] at heq
              clear hqk
              obtain ⟨bk, hbk⟩ : ∃ bk, decide ((za, zb) = (qa, qb)) = bk := ⟨_, rfl⟩
              obtain ⟨bv, hbv⟩ : ∃ bv, decide (Vx.ver ⟨zn, zs, zt, zl, zp, zc, zo⟩ = Vx.ver ⟨xn, xs, xt, xl, xp, xc, xo⟩) = bv := ⟨_, rfl⟩
              rw [hbk] at heq HTK
              rw [hbv] at HTK HSV
              clear hbk hbv
              cases B with
              | true =>
                have HN : Hid (true = (ls.take (i + 1)).any fun f => decide ((f.a, f.b) = (qa, qb)) && decide (f.v.ver = Vx.ver ⟨xn, xs, xt, xl, xp, xc, xo⟩)) := by show _ = _; rw [HTK.out]; rfl
                clear HTK HSV
                go_wp2_with fail
                go_roundg (ls.length - (i + 1))
                case measure => omega
                exact ⟨i + 1, true, rfl, by go_num, by omega, by omega, HB9.out, HN.out⟩
              | false =>
                cases bk with
                | false =>
                  have HN : Hid (false = (ls.take (i + 1)).any fun f => decide ((f.a, f.b) = (qa, qb)) && decide (f.v.ver = Vx.ver ⟨xn, xs, xt, xl, xp, xc, xo⟩)) := by show _ = _; rw [HTK.out]; rfl
                  clear HTK HSV
                  go_wp2_with fail
                  go_roundg (ls.length - (i + 1))
                  case measure => omega
                  exact ⟨i + 1, false, rfl, by go_num, by omega, by omega, HB9.out, HN.out⟩
                | true =>
                  have HN : Hid (bv = (ls.take (i + 1)).any fun f => decide ((f.a, f.b) = (qa, qb)) && decide (f.v.ver = Vx.ver ⟨xn, xs, xt, xl, xp, xc, xo⟩)) := by show _ = _; rw [HTK.out]; rfl
                  clear HTK
                  go_wp2_with fail
                  refine HSV.out.mono ?_
                  rintro e wk ⟨rfl, hbk⟩
                  have HBK := hid (bel_then HB9.out HB9.out.size hbk)
                  clear hbk HSV
                  go_wp2_with fail
                  go_roundg (ls.length - (i + 1))
                  case measure => omega
                  exact ⟨i + 1, bv, rfl, by go_num, by omega, by omega, HBK.out, HN.out⟩
            · have hltz : ¬ (i : Int) < (ls.length : Int) := by omega
              have hti : ls.take i = ls := List.take_of_length_le (by omega)
              rw [hti, HTL.out] at HI
              obtain ⟨u0, u1, u2, u3, u4⟩ := HXC.out wr hb11
              have HEND : Hid (Below w.heap.size w wr) := bel_then HB3.out HB3.out.size (bel_then HB8.out HB8.out.size (bel_then HBR.out HBR.out.size hb11))
              have hBe := HI.out.2
              clear hti HI hb11 HTL
              rcases HCD.out with ⟨h1, _⟩ | ⟨h1, _⟩
              · subst h1
                have hB2 : B = xl := by rw [hBe]; simp
                clear hBe
                subst hB2
                go_wp2_with fail
                go_ret
                exact ⟨by simp, HEND.out⟩
              · subst h1
                have hB2 : B = false := by rw [hBe]; simp
                clear hBe
                subst hB2
                go_wp2_with fail
                go_ret
                exact ⟨rfl, HEND.out⟩

end Go.Proofs.YticfpkodoghnnaaGreat

/-
  The chapter's examples (stage 14): fixed, over the contracts of package past.
-/
namespace Go.Proofs.YticfpkodoghnnaaGreat
open Go.RowKit

def gv1 : Vr := ⟨1, 2, 0, true, []⟩
def gv2 : Vr := ⟨2, 5, 0, true, []⟩
def gv3 : Vr := ⟨3, 9, 0, true, []⟩
def gD1 : List RowD := [(fxa, [gv1])]
def gD2 : List RowD := [(fxa, [gv1, gv2])]
def gD3 : List RowD := [(fxa, [gv1, gv2, gv3])]
theorem go1 : ofD gD1 fxa = [gv1] := by unfold gD1 ofD; rw [if_pos rfl]
theorem go2 : ofD gD2 fxa = [gv1, gv2] := by unfold gD2 ofD; rw [if_pos rfl]
theorem go3 : ofD gD3 fxa = [gv1, gv2, gv3] := by unfold gD3 ofD; rw [if_pos rfl]
theorem gc1 : codeD [] fxa 2 true [] = 0 := by unfold codeD; rw [if_pos fx_ka]; show putC [] 2 true [] = 0; unfold putC; rw [may_nil]; rfl
theorem gp1 : putD [] fxa 2 0 true [] = gD1 := by unfold putD; rw [if_pos gc1]; rfl
theorem gc2 : codeD gD1 fxa 5 true [] = 0 := by unfold codeD; rw [if_pos fx_ka, go1]; unfold putC; rw [may_nil]; rfl
theorem gp2 : putD gD1 fxa 5 0 true [] = gD2 := by unfold putD; rw [if_pos gc2, go1]; unfold gD1 setD; rw [totK.irr, if_neg (by simp), if_pos rfl]; rfl
theorem gc3 : codeD gD2 fxa 9 true [] = 0 := by unfold codeD; rw [if_pos fx_ka, go2]; unfold putC; rw [may_nil]; rfl
theorem gp3 : putD gD2 fxa 9 0 true [] = gD3 := by unfold putD; rw [if_pos gc3, go2]; unfold gD2 setD; rw [totK.irr, if_neg (by simp), if_pos rfl]; rfl
theorem ga1 : pastAt gD3 3 7 2 fxa = (none, 8) := by unfold pastAt; rw [if_pos (by decide)]
theorem ga2 : pastAt gD3 3 7 99 fxa = (some gv2, 0) := by unfold pastAt; rw [if_neg (by decide), go3]; rfl
theorem gh1 : pastHist gD3 3 7 fxa 3 = ([gv2], 0) := by unfold pastHist; rw [if_neg (by decide), go3]; rfl
theorem gn1 : pastNum (ofD gD3 fxa) 7 1 = (some gv1, 0) := by unfold pastNum; rw [if_neg (by decide), go3]; rfl
theorem gf1 : (pastFind gD3 3 7 6 fxT (matchM [])).1.length = 1 ∧ (pastFind gD3 3 7 6 fxT (matchM [])).2 = 0 := by
  unfold pastFind
  rw [if_neg (by decide)]
  refine ⟨?_, rfl⟩
  show (scanD gD3 fxT 6 (matchM [])).length = 1
  unfold scanD
  have : walkD gD3 6 = [(fxa, gv2)] := rfl
  rw [this]
  simp [fxa, fxT, matchM]
theorem gs1 {L : List Fnd × Int} (h : PastSince gD3 3 7 fxT 3 L) : L.1.length = 1 ∧ L.2 = 0 := by
  unfold PastSince at h
  rw [if_neg (by decide)] at h
  obtain ⟨h1, r, h2, _, h4⟩ := h
  refine ⟨?_, h1⟩
  rw [h4, (h2.filter _).length_eq]
  have : sinceD gD3 fxT 3 = [(fxa, gv2), (fxa, gv3)] := by
    unfold sinceD gD3
    have h3 : sinceV [gv1, gv2, gv3] 3 = [gv2, gv3] := rfl
    simp [fxa, fxT, h3]
  rw [this]
  rfl

theorem u64_lit {s : Int} (h0 : 0 ≤ s) (h : s ≤ 100) : U64 s := ⟨h0, by omega⟩
theorem fit_fxa : FitK fxa := by decide
theorem fit_nilX : FitX [] := ⟨by decide, fun x hx => by cases hx⟩
theorem isXs_nil14 (w : World) : IsXs w (.slice none ([] : List Fx).length 0) [] := ⟨none, 0, rfl, Or.inl rfl, fun x hx => by cases hx⟩

set_option maxHeartbeats 16000000 in
set_option maxRecDepth 100000 in
theorem fixed14_any (S : PastApi) : Fixed14 := by
  intro W
  have HN := hid (s_new W)
  obtain ⟨N, hN⟩ : ∃ N, W.heap.size = N := ⟨_, rfl⟩
  rw [hN] at HN
  go_enter Tryz.func8, Tryz.ntmps8
  go_wp2_with fail
  try rw [hN]
  refine HN.out.mono ?_
  rintro e w1 ⟨rfl, hs1, hb1⟩
  obtain ⟨K, hK⟩ : ∃ K, w1.heap.size = K := ⟨_, rfl⟩
  have hNK : N < K := by
    obtain ⟨m, G, h⟩ := hs1
    have h1 := (h.blk m (Or.inr (Or.inl rfl)))
    omega
  obtain ⟨hbb, e1, e2, hsz⟩ := two_boxes14 w1 #[.string fxa.1, .string fxa.2] #[.int .u64 2, .int .u64 5, .int .u64 9] 31 29
  obtain ⟨W2, hW2⟩ : ∃ W2, (w1.alloc (.cells #[.string fxa.1, .string fxa.2] 31)).alloc (.cells #[.int .u64 2, .int .u64 5, .int .u64 9] 29) = W2 := ⟨_, rfl⟩
  rw [hW2] at hbb e1 e2 hsz
  rw [hK] at e1 e2 hsz
  have hq2 : DirQ (fun b => b ≠ K ∧ b ≠ K + 1) N (N + 1) 0 [] W2 := by
    obtain ⟨m, G, h⟩ := hs1
    refine ⟨m, G, h.on hbb, fun b hb => ?_⟩
    have := (h.blk b hb).2
    omega
  have hbW2 : Below N W W2 := hb1.trans (hbb.mono (by omega))
  have HBX : Hid (∀ W' : World, W'.heap[K]? = W2.heap[K]? → W'.heap[K + 1]? = W2.heap[K + 1]? → (W'.cell? ⟨K, 0, none⟩ = some (.string ⟨#[65]⟩) ∧ W'.cell? ⟨K, 1, none⟩ = some (.string ⟨#[97]⟩)) ∧ W'.cell? ⟨K + 1, 0, none⟩ = some (.int .u64 2) ∧ W'.cell? ⟨K + 1, 1, none⟩ = some (.int .u64 5) ∧ W'.cell? ⟨K + 1, 2, none⟩ = some (.int .u64 9)) := fun W' a b => by
    have a' := a.trans e1
    have b' := b.trans e2
    exact ⟨⟨by rw [Lib.cell_of_heap a']; rfl, by rw [Lib.cell_of_heap a']; rfl⟩, by rw [Lib.cell_of_heap b']; rfl, by rw [Lib.cell_of_heap b']; rfl, by rw [Lib.cell_of_heap b']; rfl⟩
  have HS2 : Hid (W2.heap.size = K + 2) := hsz
  have HP : Hid (∀ (W' : World) (n : Nat) (D D' : List RowD) (s : Int), DirQ (fun b => b ≠ K ∧ b ≠ K + 1) N (N + 1) n D W' → K + 2 ≤ W'.heap.size → n ≤ 3 → 0 ≤ s → putD D fxa s 0 true [] = D' →
      Calls Tryz.prog 25 #[.pointer (some ⟨N + 1, 0, none⟩), .agg #[.string ⟨#[65]⟩, .string ⟨#[97]⟩], .int .u64 s, .int .i64 0, .bool true, .slice none 0 0] W' fun r w' => (∃ a b, r = .returned (.tuple #[.int .i64 a, .int .i64 b])) ∧ DirQ (fun b => b ≠ K ∧ b ≠ K + 1) N (N + 1) (n + 1) D' w' ∧ w'.heap[K]? = W'.heap[K]? ∧ w'.heap[K + 1]? = W'.heap[K + 1]? ∧ Below N W' w') := fun W' n D D' s hq hk hn h0 hD => by
    refine (q_put hq (fun b hb => ⟨by omega, by omega⟩) (by omega) fxa fit_fxa s 0 true (.slice none 0 0) [] [] (isXs_nil14 W') fit_nilX rfl h0).mono ?_
    rintro r w' ⟨h1, h2, h3, h4⟩
    rw [hD] at h2
    exact ⟨⟨_, _, h1⟩, h2, h3.block K (by omega) fun q => q.1 rfl, h3.block (K + 1) (by omega) fun q => q.2 rfl, h4⟩
  have HQ2 := hid hq2
  have HB2 := hid hbW2
  obtain ⟨⟨a0, a1⟩, b0, b1, b2⟩ := HBX.out W2 rfl rfl
  clear hs1 hb1 hbb e1 e2 hsz hq2 hbW2 HN
  simp only [fxa] at hW2
  go_wp2_with fail
  try rw [hK]
  try rw [hW2]
  clear hW2
  refine wp_loop_rounds 4 ?_
  rw [rounds_succ]
  go_wp2_with fail
  clear a0 a1 b0 b1 b2
  refine (HP.out W2 0 [] gD1 2 HQ2.out (by have := HS2.out; omega) (by omega) (by omega) gp1).mono ?_
  rintro e v1 ⟨⟨za, zb, rfl⟩, hq, h1, h2, hb⟩
  have HQ3 := hid hq
  have HS3 : Hid (v1.heap.size ≥ K + 2) := by show _ ≥ _; have := hb.size; have := HS2.out; omega
  have HB3 : Hid (Below N W v1) := HB2.out.trans hb
  have HE3 : Hid (v1.heap[K]? = W2.heap[K]? ∧ v1.heap[K + 1]? = W2.heap[K + 1]?) := ⟨h1, h2⟩
  obtain ⟨⟨a0, a1⟩, b0, b1, b2⟩ := HBX.out v1 HE3.out.1 HE3.out.2
  clear hq h1 h2 hb
  go_wp2_with fail
  rw [rounds_succ]
  go_wp2_with fail
  clear a0 a1 b0 b1 b2
  refine (HP.out v1 1 gD1 gD2 5 HQ3.out (by have := HS3.out; omega) (by omega) (by omega) gp2).mono ?_
  rintro e v2 ⟨⟨za, zb, rfl⟩, hq, h1, h2, hb⟩
  have HQ4 := hid hq
  have HS4 : Hid (v2.heap.size ≥ K + 2) := by show _ ≥ _; have := hb.size; have := HS3.out; omega
  have HB4 : Hid (Below N W v2) := HB3.out.trans hb
  have HE4 : Hid (v2.heap[K]? = W2.heap[K]? ∧ v2.heap[K + 1]? = W2.heap[K + 1]?) := ⟨h1.trans HE3.out.1, h2.trans HE3.out.2⟩
  obtain ⟨⟨a0, a1⟩, b0, b1, b2⟩ := HBX.out v2 HE4.out.1 HE4.out.2
  clear hq h1 h2 hb
  go_wp2_with fail
  rw [rounds_succ]
  go_wp2_with fail
  clear a0 a1 b0 b1 b2
  refine (HP.out v2 2 gD2 gD3 9 HQ4.out (by have := HS4.out; omega) (by omega) (by omega) gp3).mono ?_
  rintro e v3 ⟨⟨za, zb, rfl⟩, hq, h1, h2, hb⟩
  have HQ5 := hid hq
  have HS5 : Hid (v3.heap.size ≥ K + 2) := by show _ ≥ _; have := hb.size; have := HS4.out; omega
  have HB5 : Hid (Below N W v3) := HB4.out.trans hb
  have HE5 : Hid (v3.heap[K]? = W2.heap[K]? ∧ v3.heap[K + 1]? = W2.heap[K + 1]?) := ⟨h1.trans HE4.out.1, h2.trans HE4.out.2⟩
  obtain ⟨⟨a0, a1⟩, b0, b1, b2⟩ := HBX.out v3 HE5.out.1 HE5.out.2
  clear hq h1 h2 hb
  go_wp2_with fail
  rw [rounds_succ]
  obtain ⟨P, hP⟩ : ∃ P, v3.heap.size = P := ⟨_, rfl⟩
  obtain ⟨V, hV⟩ : ∃ V, v3.alloc (.cells #[.int .u64 3, .int .u64 7] 36) = V := ⟨_, rfl⟩
  have hal : Below v3.heap.size v3 V := by rw [← hV]; exact (Below.refl _ _).alloc (Nat.le_refl _) _
  have hpb : V.heap[P]? = some (.cells #[.int .u64 3, .int .u64 7] 36 (0, 0)) := by rw [← hV, ← hP]; exact heap_alloc_new v3 _
  have hPl : P < V.heap.size := (Array.getElem?_eq_some_iff.1 hpb).1
  have hKV : V.heap[K]? = W2.heap[K]? ∧ V.heap[K + 1]? = W2.heap[K + 1]? := by
    have hs := HS5.out
    exact ⟨(hal.block K (by omega)).trans HE5.out.1, (hal.block (K + 1) (by omega)).trans HE5.out.2⟩
  have HSV : Hid (V.heap.size > K + 2) := by show _ > _; have := HS5.out; omega
  have HBV : Hid (Below N W V) := HB5.out.trans (hal.mono (by have := HS5.out; omega))
  have HCV : Hid (∀ W', Below V.heap.size V W' → (W'.cell? ⟨K, 0, none⟩ = some (.string ⟨#[65]⟩) ∧ W'.cell? ⟨K, 1, none⟩ = some (.string ⟨#[97]⟩)) ∧ W'.cell? ⟨P, 0, none⟩ = some (.int .u64 3) ∧ W'.cell? ⟨P, 1, none⟩ = some (.int .u64 7)) := fun W' hW => by
    have e3 := (hW.block P hPl).trans hpb
    have hs := HSV.out
    have := HBX.out W' ((hW.block K (by omega)).trans hKV.1) ((hW.block (K + 1) (by omega)).trans hKV.2)
    exact ⟨this.1, by rw [Lib.cell_of_heap e3]; rfl, by rw [Lib.cell_of_heap e3]; rfl⟩
  have HDV : Hid (∀ W', Below V.heap.size V W' → DirS N (N + 1) 3 gD3 W') := fun W' hW => HQ5.out.s.on (bel_then hal hal.size hW)
  have h33 : (3 : Nat) ≤ 1760000000000 := by omega
  have HA1 : Hid (∀ W', Below V.heap.size V W' → Calls Tryz.prog 10 #[.pointer (some ⟨N + 1, 0, none⟩), .agg #[.int .u64 3, .int .u64 7], .int .u64 2, .agg #[.string ⟨#[65]⟩, .string ⟨#[97]⟩]] W' fun e w' => RdV W' (none, 8) e w') := fun W' hW => by
    have := S.at' (HDV.out W' hW) h33 3 7 2 fxa (u64_lit (by decide) (by decide)) (u64_lit (by decide) (by decide)) (u64_lit (by decide) (by decide)) fit_fxa
    rw [ga1] at this
    exact this
  have HA2 : Hid (∀ W', Below V.heap.size V W' → Calls Tryz.prog 10 #[.pointer (some ⟨N + 1, 0, none⟩), .agg #[.int .u64 3, .int .u64 7], .int .u64 99, .agg #[.string ⟨#[65]⟩, .string ⟨#[97]⟩]] W' fun e w' => RdV W' (some gv2, 0) e w') := fun W' hW => by
    have := S.at' (HDV.out W' hW) h33 3 7 99 fxa (u64_lit (by decide) (by decide)) (u64_lit (by decide) (by decide)) (u64_lit (by decide) (by decide)) fit_fxa
    rw [ga2] at this
    exact this
  have HHI : Hid (∀ W', Below V.heap.size V W' → Calls Tryz.prog 17 #[.pointer (some ⟨N + 1, 0, none⟩), .agg #[.int .u64 3, .int .u64 7], .agg #[.string ⟨#[65]⟩, .string ⟨#[97]⟩], .int .u64 3] W' fun e w' => RdVs W' ([gv2], 0) e w') := fun W' hW => by
    have := S.hist (HDV.out W' hW) h33 3 7 fxa 3 (u64_lit (by decide) (by decide)) (u64_lit (by decide) (by decide)) (u64_lit (by decide) (by decide)) fit_fxa
    rw [gh1] at this
    exact this
  have HSI : Hid (∀ W', Below V.heap.size V W' → Calls Tryz.prog 20 #[.pointer (some ⟨N + 1, 0, none⟩), .agg #[.int .u64 3, .int .u64 7], .string ⟨#[65]⟩, .int .u64 3] W' fun e w' => ∃ L, (L.1.length = 1 ∧ L.2 = 0) ∧ RdF W' L e w') := fun W' hW =>
    (S.since (HDV.out W' hW) h33 3 7 fxT 3 (u64_lit (by decide) (by decide)) (u64_lit (by decide) (by decide)) (u64_lit (by decide) (by decide))).mono fun e w' ⟨L, h1, h2⟩ => ⟨L, gs1 h1, h2⟩
  have HNU : Hid (∀ W', Below V.heap.size V W' → Calls Tryz.prog 22 #[.pointer (some ⟨N + 1, 0, none⟩), .agg #[.int .u64 3, .int .u64 7], .agg #[.string ⟨#[65]⟩, .string ⟨#[97]⟩], .int .i64 1] W' fun e w' => RdV W' (some gv1, 0) e w') := fun W' hW => by
    have := S.num (HDV.out W' hW) h33 3 7 fxa 1 (u64_lit (by decide) (by decide)) (u64_lit (by decide) (by decide)) fit_fxa (by decide) (by decide)
    rw [gn1] at this
    exact this
  have HFI : Hid (∀ W', Below V.heap.size V W' → Calls Tryz.prog 14 #[.pointer (some ⟨N + 1, 0, none⟩), .agg #[.int .u64 3, .int .u64 7], .int .u64 6, .string ⟨#[65]⟩, .slice none 0 0] W' fun e w' => ∃ L, (L.1.length = 1 ∧ L.2 = 0) ∧ RdF W' L e w') := fun W' hW =>
    (S.find (HDV.out W' hW) h33 3 7 6 fxT none 0 [] (u64_lit (by decide) (by decide)) (u64_lit (by decide) (by decide)) (u64_lit (by decide) (by decide)) (Kind.is_nil _ _) ⟨by decide, fun x hx => by cases hx⟩).mono fun e w' h => ⟨_, gf1, h⟩
  have HO8 : Hid (∀ W', Calls Tryz.prog 13 #[.agg #[.int .u64 3, .int .u64 7], .int .u64 8] W' fun e w' => e = .returned (.bool true) ∧ Below W'.heap.size W' w') := fun W' => S.opn W' 3 7 8
  have HO7 : Hid (∀ W', Calls Tryz.prog 13 #[.agg #[.int .u64 3, .int .u64 7], .int .u64 7] W' fun e w' => e = .returned (.bool false) ∧ Below W'.heap.size W' w') := fun W' => S.opn W' 3 7 7
  clear a0 a1 b0 b1 b2 hal hpb hPl hKV HP HQ2 HQ3 HQ4 HQ5 HB2 HB3 HB4 HB5 HS2 HS3 HS4 HS5 HE3 HE4 HE5 HBX HDV h33
  obtain ⟨⟨a0, a1⟩, p0, p1⟩ := HCV.out V (Below.refl _ _)
  go_upto_region 8 with fail
  try rw [hP]
  try rw [hV]
  clear hV hP
  go_wp2_with fail
  clear a0 a1 p0 p1
  refine (HA1.out V (Below.refl _ _)).mono ?_
  rintro e u1 ⟨x, rfl, hxv, _, hc1⟩
  obtain ⟨V1, hV1⟩ : ∃ V1, u1.alloc (.cells (encVx x).toArray 39) = V1 := ⟨_, rfl⟩
  have HD1 : Hid (Below V.heap.size V V1) := by rw [← hV1]; exact bel_then hc1 hc1.size ((Below.refl _ _).alloc (Nat.le_refl _) _)
  clear hxv hc1 HA1
  obtain ⟨xn, xs, xt, xl, xp, xc, xo⟩ := x
  simp only [encVx, Vx.sl] at *
  obtain ⟨⟨a0, a1⟩, p0, p1⟩ := HCV.out V1 HD1.out
  go_upto_region 9 with fail
  try rw [hV1]
  clear hV1
  go_wp2_with fail
  clear a0 a1 p0 p1
  refine (HA2.out V1 HD1.out).mono ?_
  rintro e u2 ⟨y, rfl, hyv, _, hc2⟩
  obtain ⟨Y, hY⟩ : ∃ Y, u2.heap.size = Y := ⟨_, rfl⟩
  obtain ⟨V2, hV2⟩ : ∃ V2, u2.alloc (.cells (encVx y).toArray 39) = V2 := ⟨_, rfl⟩
  have hyb : V2.heap[Y]? = some (.cells (encVx y).toArray 39 (0, 0)) := by rw [← hV2, ← hY]; exact heap_alloc_new u2 _
  have HD2 : Hid (Below V.heap.size V V2) := by rw [← hV2]; exact bel_then HD1.out HD1.out.size (bel_then hc2 hc2.size ((Below.refl _ _).alloc (Nat.le_refl _) _))
  have hyn : y.num = 2 := congrArg Vr.num hyv
  clear hyv hc2 HA2
  obtain ⟨yn, ys, yt, yl, yp, yc, yo⟩ := y
  simp only at hyn
  subst hyn
  simp only [encVx, Vx.sl] at *
  have HYB : Hid (∀ W', Below V2.heap.size V2 W' → W'.cell? ⟨Y, 0, none⟩ = some (.int .i64 2)) := fun W' hW => by
    have := (hW.block Y (Array.getElem?_eq_some_iff.1 hyb).1).trans hyb
    rw [Lib.cell_of_heap this]
    rfl
  clear hyb
  obtain ⟨⟨a0, a1⟩, p0, p1⟩ := HCV.out V2 HD2.out
  go_upto_region 10 with fail
  try rw [hY]
  try rw [hV2]
  clear hV2 hY
  go_wp2_with fail
  clear a0 a1 p0 p1
  refine (HHI.out V2 HD2.out).mono ?_
  rintro e u3 ⟨lp, lc, lo, rfl, _, _, hlm, _, hc3⟩
  have hll : lo.length = 1 := by simpa using congrArg List.length hlm
  have HD3 : Hid (Below V.heap.size V u3) := bel_then HD2.out HD2.out.size hc3
  have HE3 := hid hc3
  rw [hll]
  clear hlm hc3 HHI hll
  obtain ⟨⟨a0, a1⟩, p0, p1⟩ := HCV.out u3 HD3.out
  go_wp2_with fail
  clear a0 a1 p0 p1
  refine (HSI.out u3 HD3.out).mono ?_
  rintro e u4 ⟨⟨L1, L2⟩, ⟨hL1, hL2⟩, sp, sc, so, rfl, _, _, hsm, _, hc4⟩
  simp only at hL1 hL2 hsm
  have hsl : so.length = 1 := by rw [← hL1, ← hsm, List.length_map]
  subst hL2
  have HD4 : Hid (Below V.heap.size V u4) := bel_then HD3.out HD3.out.size hc4
  have HE4 := hid (bel_then HE3.out HE3.out.size hc4)
  simp only
  rw [hsl]
  clear hL1 hsm hsl hc4 HSI HE3
  obtain ⟨⟨a0, a1⟩, p0, p1⟩ := HCV.out u4 HD4.out
  go_wp2_with fail
  clear a0 a1 p0 p1
  refine (HNU.out u4 HD4.out).mono ?_
  rintro e u5 ⟨z, rfl, hzv, _, hc5⟩
  obtain ⟨Zb, hZ⟩ : ∃ Zb, u5.heap.size = Zb := ⟨_, rfl⟩
  obtain ⟨V5, hV5⟩ : ∃ V5, u5.alloc (.cells (encVx z).toArray 39) = V5 := ⟨_, rfl⟩
  have hzb : V5.heap[Zb]? = some (.cells (encVx z).toArray 39 (0, 0)) := by rw [← hV5, ← hZ]; exact heap_alloc_new u5 _
  have hal5 : Below u4.heap.size u4 V5 := by rw [← hV5]; exact bel_then hc5 hc5.size ((Below.refl _ _).alloc (Nat.le_refl _) _)
  have HD5 : Hid (Below V.heap.size V V5) := bel_then HD4.out HD4.out.size hal5
  have HE5 := hid (bel_then HE4.out HE4.out.size hal5)
  have hzs : z.stamp = 2 := congrArg Vr.stamp hzv
  clear hzv hc5 hal5 HNU HE4
  obtain ⟨zn, zs, zt, zl, zp, zc, zo⟩ := z
  simp only at hzs
  subst hzs
  simp only [encVx, Vx.sl] at *
  have HZB : Hid (∀ W', Below V5.heap.size V5 W' → W'.cell? ⟨Zb, 1, none⟩ = some (.int .u64 2)) := fun W' hW => by
    have := (hW.block Zb (Array.getElem?_eq_some_iff.1 hzb).1).trans hzb
    rw [Lib.cell_of_heap this]
    rfl
  clear hzb
  obtain ⟨⟨a0, a1⟩, p0, p1⟩ := HCV.out V5 HD5.out
  go_upto_region 13 with fail
  try rw [hZ]
  try rw [hV5]
  clear hV5 hZ
  go_wp2_with fail
  clear a0 a1 p0 p1
  refine (HFI.out V5 HD5.out).mono ?_
  rintro e u6 ⟨⟨M1, M2⟩, ⟨hM1, hM2⟩, fp, fc, fo, rfl, _, _, hfm, _, hc6⟩
  simp only at hM1 hM2 hfm
  have hfl : fo.length = 1 := by rw [← hM1, ← hfm, List.length_map]
  subst hM2
  have HD6 : Hid (Below V.heap.size V u6) := bel_then HD5.out HD5.out.size hc6
  have y0 := HYB.out u6 (bel_then HE5.out HE5.out.size hc6)
  have z0 := HZB.out u6 hc6
  simp only
  rw [hfl]
  clear hM1 hfm hfl hc6 HFI HE5 HYB HZB
  obtain ⟨⟨a0, a1⟩, p0, p1⟩ := HCV.out u6 HD6.out
  go_wp2_with fail
  clear a0 a1 p0 p1 y0 z0
  refine (HO8.out u6).mono ?_
  rintro e u7 ⟨rfl, hc7⟩
  have HD7 : Hid (Below V.heap.size V u7) := bel_then HD6.out HD6.out.size hc7
  clear hc7
  obtain ⟨⟨a0, a1⟩, p0, p1⟩ := HCV.out u7 HD7.out
  go_wp2_with fail
  clear a0 a1 p0 p1
  refine (HO7.out u7).mono ?_
  rintro e u8 ⟨rfl, hc8⟩
  have HD8 : Hid (Below N W u8) := HBV.out.trans ((bel_then HD7.out HD7.out.size hc8).mono (by have := HBV.out.size; omega))
  clear hc8
  go_wp2_with fail
  go_ret
  exact ⟨rfl, by rw [hN]; exact HD8.out⟩

end Go.Proofs.YticfpkodoghnnaaGreat

/-
  For every script and every question the Go function PastLogs of package foliolaw14 returns true, and its arguments read behind the call as they read before; no condition; over the contracts of package past.
-/
namespace Go.Proofs.YticfpkodoghnnaaGreat
open Go.ChangeShapes Go.WideShapes Go.ChangeAt Go.RowKit Go.Joins

set_option maxRecDepth 100000 in
theorem pastlogs_walked (S : PastApi) {H : Type} {enc : TypeId × Value → H} (W : World) (base : Nat) (args : Array Value) (ds gs : List (DataW H)) (before : List MemPlace)
    (hval : ∀ (j : Nat) t v, Tryz.f7.params[j]? = some t → args[j]? = some v → Value.okWide Tryz.prog W .any base t v)
    (hW : DataW.Whole enc Tryz.prog Tryz.f7.params.toList Rows.pastLogsSpec.vars false W args.toList ds gs before)
    (hZ : (DataW.weightsEach Tryz.prog (Tryz.f7.params.toList ++ (OpenSpec.ofChange Rows.pastLogsSpec).bare.plain.varTypes Tryz.prog) (ds ++ gs)).all (· ≤ reachBytes) = true) :
    Calls Tryz.prog 7 args W fun e W' => ∃ v, e = .returned v ∧ Rows.pastLogsSpec.post enc Tryz.prog Tryz.f7 false true false false W args v W' := by
  have hW' := hW
  obtain ⟨p, q, hA0, hV, rfl, _, _⟩ := hW
  have hA : DataW.TrodAll enc Tryz.prog W 0 (fun _ => true) true Tryz.f7.params.toList args.toList ds p := hA0
  rw [Tryz.params7] at hA hval hZ
  obtain ⟨v0, vs0, d0, ds0, p0, q0, hargs, rfl, rfl, h0, r0⟩ := trodAll_cons hA
  obtain ⟨v1, vs1, d1, ds1, p1, q1, rfl, rfl, rfl, h1, r1⟩ := trodAll_cons r0
  obtain ⟨rfl, rfl, rfl⟩ := trodAll_nil r1
  obtain rfl : args = #[v0, v1] := by cases args; simp_all
  obtain ⟨rfl, rfl⟩ := trodVars_none hV
  have lt0 : ∀ x ∈ p0, x.block < W.heap.size := by obtain ⟨m, hm⟩ := h0; exact DataW.trod_lt m _ _ _ hm
  have lt1 : ∀ x ∈ p1, x.block < W.heap.size := by obtain ⟨m, hm⟩ := h1; exact DataW.trod_lt m _ _ _ hm
  have k0 := h0
  have k1 := h1
  have hwalk : Calls Tryz.prog 7 #[v0, v1] W fun e w' => e = .returned (.bool true) ∧ Below W.heap.size W w' := by
    have z0 : ∀ n ∈ d0.weights Tryz.prog 22, n ≤ reachBytes := fun n hn => by
      have := List.all_eq_true.1 hZ n (DataW.weights_mem_each (j := 0) rfl rfl n hn)
      simpa using this
    have z1 : ∀ n ∈ d1.weights Tryz.prog 34, n ≤ reachBytes := fun n hn => by
      have := List.all_eq_true.1 hZ n (DataW.weights_mem_each (j := 1) rfl rfl n hn)
      simpa using this
    obtain ⟨l, hl1, hl2, hl3, hl4⟩ := open_putsP (hval 0 22 v0 rfl rfl) h0 z0
    obtain ⟨q, rfl, hq⟩ := open_ask1P (hval 1 34 v1 rfl rfl) h1 z1
    exact logs14_any (fixed14_any S) v0 l q W hl1 hl2 hq hl3
  clear hA0
  refine hwalk.mono fun o W' ⟨he, bel⟩ => ?_
  subst he
  exact ⟨_, rfl, _, _, _, [], _, [], hW', trodAll_mk1 (shut_bool Tryz.underlying4 _),
    (trodAll_cons_mk (Below.trod Tryz.laidOut (by kernel_rfl) (of_decide_eq_true (by kernel_rfl)) k0 bel lt0) (trodAll_cons_mk (Below.trod Tryz.laidOut (by kernel_rfl) (of_decide_eq_true (by kernel_rfl)) k1 bel lt1) trodAll_mk0)), rfl, bel.frame _, fun h => by cases h⟩

set_option maxRecDepth 100000 in
theorem pastlogs_free (S : PastApi) (os : Os) (started : os.Started) (H : Type) (enc : TypeId × Value → H) :
    ReturnsInHanded {} Tryz.checked os 7 .any (Rows.pastLogsSpec.pre6 enc Tryz.prog Tryz.f7 Rows.pastLogsRow.domain false) (Rows.pastLogsSpec.post enc Tryz.prog Tryz.f7 false true false false) := by
  refine returnsInHanded_of_change_sized (C := Tryz.checked) Tryz.own started (by kernel_rfl) Tryz.func7
    (ChangeSpec.witness6 (enc := enc) (C := Tryz.checked) false ⟨#[], #[.slice none 0 0, .agg #[.int .u64 0, .int .u64 0, .int .u64 0, .string ⟨#[]⟩, .string ⟨#[]⟩, .slice none 0 0, .int .i64 0]], []⟩ 8 (by kernel_rfl) (by kernel_rfl) (by kernel_rfl) (by kernel_rfl)) ?_
  intro W base args ds gs before hval hW _ hZ _
  exact pastlogs_walked S W base args ds gs before hval hW hZ

theorem pastlogs_of (S : PastApi) : Rows.PastLogsSaid :=
  OpenClaim.holds_of_wide 7 Tryz.f7 rfl rfl rfl rfl rfl rfl rfl ⟨rfl, rfl, rfl, rfl, rfl⟩ rfl rfl rfl rfl rfl (by kernel_rfl) Tryz.func7 (by kernel_rfl)
    (of_decide_eq_true (by kernel_rfl)) (by unfold Func.isWrapper; first | (rw [if_pos (by decide +kernel)]; kernel_rfl) | (rw [if_neg (by decide +kernel)]; exact ⟨rfl, rfl⟩))
    (fun os started H enc _ => pastlogs_free S os started H enc)

end Go.Proofs.YticfpkodoghnnaaGreat
