/-
  Maps in memory, for whatever keys and elements: what stands at each key, how many there are; look-ups, stores, deletes, ranges.
-/
import Derived.Test.YtkiandchgbldbaaFrm
import Derived.Maps.OwnSet
import Derived.Maps.OwnOps
import Derived.Maps.Views
import Derived.Maps.RangeWalk
import Derived.Sort.MapsRangeIn
namespace Go.Proofs.Ytkiandchgbldbaa
open Go.RowKit Go.Maps

/-- Keys and elements of a map's type. -/
structure MKind (κ ε : Type) where
  K : TypeId
  E : TypeId
  M : TypeId
  key : κ → Value
  lit : κ → Lit
  fit : κ → Prop
  val : ε → Value
  enc : ε → DataW Unit
  read : Value → Option (DataW Unit × List MemPlace)
  zero : ε
  und : Try.prog.underlying M = some (.map K E)
  keyed : Keyed Try.prog K
  key_is : ∀ x, fit x → keyOf Try.prog K (key x) = some (lit x)
  key_fit : ∀ x l, keyOf Try.prog K (key x) = some l → fit x ∧ l = lit x
  key_inv : ∀ v l, keyOf Try.prog K v = some l → ∃ x, v = key x
  lit_inj : ∀ x y, fit x → fit y → lit x = lit y → x = y
  read_mk : ∀ e, read (val e) = some (enc e, [])
  read_inv : ∀ v y, read v = some y → ∃ e, v = val e
  enc_inj : ∀ a b, enc a = enc b → a = b
  zeroV : ∀ w, (zeroValue E).run Try.prog w = .ok (val zero) w

/-- Block m is a map (of at most n entries at any time) of c entries that has f k at the key k. -/
def MapG {κ ε : Type} (T : MKind κ ε) (W : World) (m n : Nat) (f : κ → Option ε) (c : Nat) : Prop :=
  ∃ D : DataW Unit, W.ownsMap Try.prog T.K T.read m n D ∧ (∀ k, T.fit k → D.atKey (T.lit k) (T.enc T.zero) = T.enc ((f k).getD T.zero)) ∧ (∀ k, T.fit k → Maps.has D (T.lit k) = (f k).isSome) ∧ Maps.size D = c

section
variable {κ ε : Type} {T : MKind κ ε} {W : World} {m n : Nat} {f : κ → Option ε} {c : Nat}

theorem mapG_made (T : MKind κ ε) (w : World) : MapG T (w.alloc (.map #[] 0)) w.heap.size 0 (fun _ => none) 0 := ⟨.map [], World.ownsMap_made _ _ _ _, fun _ _ => rfl, fun _ _ => rfl, rfl⟩
theorem MapG.lt (h : MapG T W m n f c) : m < W.heap.size := by obtain ⟨D, h, _⟩ := h; exact h.lt
theorem MapG.on {W' : World} (h : MapG T W m n f c) (hb : W'.heap[m]? = W.heap[m]?) : MapG T W' m n f c := by
  obtain ⟨D, ⟨es, clock, h1, h2⟩, h3⟩ := h
  exact ⟨D, ⟨es, clock, hb.trans h1, h2⟩, h3⟩
theorem MapG.mono {n' : Nat} (h : MapG T W m n f c) (hm : n ≤ n') : MapG T W m n' f c := by
  obtain ⟨D, h1, h3⟩ := h
  exact ⟨D, h1.mono hm, h3⟩
theorem MapG.congr {f' : κ → Option ε} (h : MapG T W m n f c) (hf : ∀ k, T.fit k → f k = f' k) : MapG T W m n f' c := by
  obtain ⟨D, h1, h2, h3, h4⟩ := h
  exact ⟨D, h1, fun k hk => by rw [← hf k hk]; exact h2 k hk, fun k hk => by rw [← hf k hk]; exact h3 k hk, h4⟩
theorem MapG.obj (h : MapG T W m n f c) : ∃ es clock, W.heap[m]? = some (.map es clock) := by
  obtain ⟨D, ⟨es, clock, h1, h2⟩, h3⟩ := h
  exact ⟨es, clock, h1⟩
theorem MapG.le (h : MapG T W m n f c) : c ≤ n := by
  obtain ⟨D, h1, _, _, rfl⟩ := h
  exact h1.size_le
theorem MapG.off (h : MapG T W m n f c) {b : Nat} {cs : Array Value} {t : TypeId} {fr : Nat × Nat} (hc : W.heap[b]? = some (.cells cs t fr)) : b ≠ m := by
  obtain ⟨es, clock, h1⟩ := h.obj
  rintro rfl
  rw [hc] at h1
  cases h1

theorem mapG_look (h : MapG T W m n f c) {k : κ} (hk : T.fit k) : (Instr.lookup T.M (.map (some m)) (T.key k) false).run Try.prog W = .ok (T.val ((f k).getD T.zero)) W := by
  obtain ⟨D, hD, hf, _⟩ := h
  obtain ⟨v, ps, hrun, hv⟩ := hD.lookup T.keyed T.und (T.zeroV _) (T.read_mk T.zero) (T.key_is k hk)
  obtain ⟨o, rfl⟩ := T.read_inv _ _ hv
  rw [T.read_mk, hf k hk] at hv
  injection hv with hv
  injection hv with hv
  rw [← T.enc_inj _ _ hv]
  exact hrun

theorem mapG_look_ok (h : MapG T W m n f c) {k : κ} (hk : T.fit k) : (Instr.lookup T.M (.map (some m)) (T.key k) true).run Try.prog W = .ok (.tuple #[T.val ((f k).getD T.zero), .bool (f k).isSome]) W := by
  obtain ⟨D, hD, hf, hh, _⟩ := h
  obtain ⟨v, ps, hrun, hv⟩ := hD.look_ok T.keyed T.und (T.zeroV _) (T.read_mk T.zero) (T.key_is k hk)
  obtain ⟨o, rfl⟩ := T.read_inv _ _ hv
  rw [T.read_mk, hf k hk] at hv
  injection hv with hv
  injection hv with hv
  rw [← T.enc_inj _ _ hv, ← hh k hk]
  exact hrun

theorem mapG_put [DecidableEq κ] (h : MapG T W m n f c) {k : κ} (hk : T.fit k) (hn : n < maxLen) (e : ε) :
    ∃ w', (Instr.mapUpdate T.M (.map (some m)) (T.key k) (T.val e)).run Try.prog W = .ok () w' ∧ MapG T w' m (n + 1) (fun y => if y = k then some e else f y) (if (f k).isSome then c else c + 1) ∧ W.grownBy w' (some m) := by
  obtain ⟨D, hD, hf, hh, hc⟩ := h
  obtain ⟨w', hrun, hD', hg⟩ := hD.update T.keyed T.und hn (T.key_is k hk) (T.read_mk e)
  have hlit := T.keyed.key (T.key_is k hk)
  refine ⟨w', hrun, ⟨_, hD', fun y hy => ?_, fun y hy => ?_, ?_⟩, hg⟩
  · by_cases e1 : y = k
    · subst e1
      simp only [if_true]
      exact atKey_put_same hD.isMap hlit _ _
    · simp only [if_neg e1]
      rw [atKey_put_other (fun h => e1 (T.lit_inj _ _ hy hk h))]
      exact hf y hy
  · by_cases e1 : y = k
    · subst e1
      simp only [if_true]
      exact has_put_same hD.isMap hlit _
    · simp only [if_neg e1]
      rw [has_put_other (fun h => e1 (T.lit_inj _ _ hy hk h))]
      exact hh y hy
  · rw [size_put (hD.tidy T.keyed), hh k hk, hc]

theorem mapG_del [DecidableEq κ] (h : MapG T W m n f c) {k : κ} (hk : T.fit k) (ty : TypeId) :
    ∃ w' c', (Builtin.delete_ #[T.M, T.K] ty #[.map (some m), T.key k]).run Try.prog W = .ok (.tuple #[]) w' ∧ MapG T w' m n (fun y => if y = k then none else f y) c' ∧ c' + (if (f k).isSome then 1 else 0) = c ∧ W.grownBy w' (some m) ∧ w'.heap.size = W.heap.size := by
  obtain ⟨D, hD, hf, hh, hc⟩ := h
  obtain ⟨w', hrun, hD', hg⟩ := hD.drop T.keyed T.und (T.key_is k hk) ty
  refine ⟨w', _, hrun, ⟨_, hD', fun y hy => ?_, fun y hy => ?_, rfl⟩, ?_, hg.grown, ?_⟩
  · by_cases e1 : y = k
    · subst e1
      simp only [if_true]
      exact atKey_del_same _
    · simp only [if_neg e1]
      rw [atKey_del_other (fun h => e1 (T.lit_inj _ _ hy hk h))]
      exact hf y hy
  · by_cases e1 : y = k
    · subst e1
      simp only [if_true]
      exact has_del_same
    · simp only [if_neg e1]
      rw [has_del_other (fun h => e1 (T.lit_inj _ _ hy hk h))]
      exact hh y hy
  · rw [← hh k hk, size_del (hD.tidy T.keyed), hc]
  · obtain ⟨es, clock, es', clock', h1, rfl⟩ := hg
    simp [ChangeMaps.setBlock]

theorem mapG_len (h : MapG T W m n f c) (ty : TypeId) : (Builtin.len_ #[T.M] ty #[.map (some m)]).run Try.prog W = .ok (.int .i64 c) W := by
  obtain ⟨D, hD, _, _, rfl⟩ := h
  exact hD.len T.und ty
end

/-! ## Ranged over -/

/-- A range over the map, of which the keys 'seen' have come. -/
def RangeG {κ ε : Type} (T : MKind κ ε) (W : World) (m r n : Nat) (f : κ → Option ε) (c : Nat) (seen : List κ) (cnt : Nat) : Prop :=
  ∃ (D : DataW Unit) (left : Lit → Bool), W.ranges Try.prog T.K T.read m r n D left cnt ∧ (∀ k, T.fit k → D.atKey (T.lit k) (T.enc T.zero) = T.enc ((f k).getD T.zero)) ∧ (∀ k, T.fit k → Maps.has D (T.lit k) = (f k).isSome) ∧ Maps.size D = c ∧
    (∀ k, T.fit k → (left (T.lit k) = true ↔ (f k).isSome = true ∧ k ∉ seen)) ∧ seen.Nodup ∧ (∀ k ∈ seen, T.fit k ∧ (f k).isSome = true) ∧ seen.length + cnt ≤ c

section
variable {κ ε : Type} {T : MKind κ ε} {W : World} {m r n : Nat} {f : κ → Option ε} {c : Nat} {seen : List κ} {cnt : Nat}

theorem RangeG.left_eq (h : RangeG T W m r n f c seen cnt) : W.rangeLeft m r = cnt := by
  obtain ⟨D, left, h1, _⟩ := h
  exact h1.left_eq
theorem RangeG.map (h : RangeG T W m r n f c seen cnt) : MapG T W m n f c := by
  obtain ⟨D, left, h1, h2, h3, h4, _⟩ := h
  exact ⟨D, h1.owns, h2, h3, h4⟩
theorem RangeG.lt (h : RangeG T W m r n f c seen cnt) : r < W.heap.size := by
  obtain ⟨D, left, h1, _⟩ := h
  exact h1.lt
theorem RangeG.nodup (h : RangeG T W m r n f c seen cnt) : seen.Nodup ∧ (∀ k ∈ seen, T.fit k ∧ (f k).isSome = true) ∧ seen.length + cnt ≤ c := by
  obtain ⟨D, left, h1, _, _, _, _, h2, h3, h4⟩ := h
  exact ⟨h2, h3, h4⟩
theorem RangeG.iter (h : RangeG T W m r n f c seen cnt) : ∃ since sn c0, W.heap[r]? = some (.mapIter (some m) since sn c0) := by
  obtain ⟨D, left, ⟨es, clock, since, sn, c0, _, _, _, _, h5, _⟩, _⟩ := h
  exact ⟨since, sn, c0, h5⟩
theorem RangeG.on {W' : World} (h : RangeG T W m r n f c seen cnt) (hm : W'.heap[m]? = W.heap[m]?) (hr : W'.heap[r]? = W.heap[r]?) : RangeG T W' m r n f c seen cnt := by
  obtain ⟨D, left, ⟨es, clock, since, sn, c0, h1, h2, h3, h4, h5, h6⟩, h7⟩ := h
  exact ⟨D, left, ⟨es, clock, since, sn, c0, hm.trans h1, h2, h3, h4, hr.trans h5, h6⟩, h7⟩
end

section
variable {κ ε : Type} {T : MKind κ ε} (w : World) {ops : Array Oper} {rest : List Oper} {o : Oper} {a : Act} {Q : Exit → Act → World → Prop}

theorem wp_range_G (hg : o.guard = none) (mo : Operand) (hop : o.op = Op.range T.M mo) (m n : Nat) (f : κ → Option ε) (c : Nat) (hm : a.eval mo = .map (some m)) (h : MapG T w m n f c)
    (hK : ∀ w', RangeG T w' m w.heap.size n f c [] c → w.grownBy w' none → w'.heap.size = w.heap.size + 1 → wpList Try.prog ops Q rest (a.put o.dst (.pointer (some ⟨w.heap.size, 0, none⟩))) w') :
    wpList Try.prog ops Q (o :: rest) a w := by
  obtain ⟨D, hD, hf, hh, hc⟩ := h
  refine wpList_range_own w hg mo _ hop _ _ T.keyed T.und T.read m n D hm hD fun w' h1 h2 h3 => hK w' ?_ h2 h3
  rw [hc] at h1
  exact ⟨D, _, h1, hf, hh, hc, fun k hk => by rw [hh k hk]; simp, List.nodup_nil, fun k hk => by simp at hk, by simp⟩

theorem wp_next_G (hg : o.guard = none) (it : Operand) (hop : o.op = Op.next it false) (m r n : Nat) (f : κ → Option ε) (c : Nat) (seen : List κ) (cnt : Nat) (hit : a.eval it = .pointer (some ⟨r, 0, none⟩)) (h : RangeG T w m r n f c seen cnt)
    (hDone : (∀ k, T.fit k → (f k).isSome = true → k ∈ seen) → wpList Try.prog ops Q rest (a.put o.dst (.tuple #[.bool false])) w)
    (hMore : ∀ (k : κ) (e : ε) (w' : World) (cnt' : Nat), T.fit k → k ∉ seen → f k = some e → RangeG T w' m r n f c (seen ++ [k]) cnt' → cnt' < cnt → w.grownBy w' (some r) → w'.heap.size = w.heap.size →
      (Instr.entry (.pointer (some ⟨r, 0, none⟩))).run Try.prog w' = .ok (.tuple #[T.key k, T.val e]) w' → wpList Try.prog ops Q rest (a.put o.dst (.tuple #[.bool true, T.key k, T.val e])) w') :
    wpList Try.prog ops Q (o :: rest) a w := by
  obtain ⟨D, left, h1, h2, h3, hc, h4, h5, h6, h7⟩ := h
  refine wpList_next_ranges w hg it hop _ T.keyed T.read T.key T.val T.key_inv T.read_inv m r n D left cnt hit h1 (fun _ hl => hDone fun k hk hs => ?_) fun x e kl y w' cnt' hkey hlk hR hat hr hlt hg' hsz hen => ?_
  · refine Classical.byContradiction fun hn => ?_
    have := (h4 k hk).2 ⟨hs, hn⟩
    rw [hl] at this
    cases this
  · obtain ⟨hx, rfl⟩ := T.key_fit _ _ hkey
    have hb : (f x).isSome = true ∧ x ∉ seen := (h4 x hx).1 hlk
    obtain ⟨e', he'⟩ := Option.isSome_iff_exists.1 hb.1
    have hee : e = e' := by
      rw [T.read_mk] at hR
      injection hR with hR
      have := hat (T.enc T.zero)
      rw [← hR, h2 x hx, he'] at this
      exact (T.enc_inj _ _ this).symm
    subst hee
    refine hMore x e w' cnt' hx hb.2 he' ⟨D, _, hr, h2, h3, hc, fun k hk => ?_, ?_, fun k hk => ?_, by rw [List.length_append, List.length_singleton]; omega⟩ hlt hg' hsz hen
    · show (left (T.lit k) && !(T.lit k).sameKey (T.lit x)) = true ↔ _
      rw [Bool.and_eq_true, h4 k hk]
      by_cases e1 : k = x
      · subst e1
        rw [WideAt.sameKey_self (T.keyed.key (T.key_is k hk))]
        simp
      · rw [sameKey_ne (fun h => e1 (T.lit_inj _ _ hk hx h))]
        simp [e1]
    · exact List.nodup_append.2 ⟨h5, by simp, fun a ha b hb' => by
        rw [List.mem_singleton] at hb'
        rintro rfl
        rw [hb'] at ha
        exact hb.2 ha⟩
    · rcases List.mem_append.1 hk with hk | hk
      · exact h6 k hk
      · rw [List.mem_singleton] at hk
        subst hk
        exact ⟨hx, hb.1⟩
end

end Go.Proofs.Ytkiandchgbldbaa
