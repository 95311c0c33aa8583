/-
  Texts of this claim, one behind the other: Wr4 Krf Krk Rmay Wr3 Tok Rtok Rp3 Wr5 Wfo Fdi Wap Kmp Gmp Cp1 Ws1 Ws2 Ws3 Ws4 Ws5 Ws6 Drg Zcompa Zrise Zsorta Nso Ws7 Wsm Ws8.
-/
import Derived.Test.YtjehjjpdicimhaaPb
import Derived.Test.YtjehjjpdicimhaaPa
import Derived.Deep.QuietTactic
import Derived.BigQuiet
import Derived.Test.YtjehjjpdicimhaaChecked
import Derived.Maps.OwnSet
import Derived.Maps.OwnOps
import Derived.Maps.Views
import Derived.Maps.RangeWalk
import Derived.Sort.MapsRangeIn
import Derived.DeepKeys4
import Derived.DataShut
import Derived.Deep.RegionHeld3
import Derived.RangeFuncNested
import Derived.RangeFuncBound
import Derived.RangeFuncCalls
import Derived.RangeFuncLeaves
import Derived.Lib.SlicesCompact
import Derived.Deep.LoopGhost
import Derived.Shelf.Abstract
import Derived.Shelf.RegionOpen
import Derived.OwnWalkIn
import Derived.TacticsInMore
import Derived.LoopNIn
import Derived.LoopIn
/-
  The reference's set of writes (stage 11): place.
-/
namespace Go.Proofs.Ytjehjjpdicimhaa
open Go.RowKit

theorem Try.infoFdW : (Try.prog.info? 49).map (fun i => (i.zero, i.size, i.bytes)) = some (some (.agg #[.string ⟨#[]⟩, .string ⟨#[]⟩, .int .i64 0, .int .u64 0, .int .i64 0, .bool false, .slice none 0 0]), 7, 88) := by kernel_rfl

/-- A find in its place. -/
def PlacePost (N : Nat) (W : World) (fs : List Fd) (f : Fd) (e : Ending) (w' : World) : Prop :=
  ∃ u fs', e = .returned u ∧ RowSt KFd N W u fs' w' ∧ fs'.map Fd.fnd = insP f.fnd (fs.map Fd.fnd) ∧ fs'.length = fs.length + 1 ∧ ∀ y ∈ fs', y = f ∨ y ∈ fs

theorem place_done {N : Nat} {W : World} {fs : List Fd} {f : Fd} {u : Value} {w' : World} {i : Nat} (hi : i ≤ fs.length) (h : RowSt KFd N W u (fs.take i ++ f :: fs.drop i) w') (hr : RiseP (fs.map Fd.fnd)) (h1 : 0 < i → (h : i - 1 < fs.length) → ltKy (f.a, f.b) ((fs[i - 1]).a, (fs[i - 1]).b) = false) (h2 : ∀ j, i ≤ j → (h : j < fs.length) → ltKy (f.a, f.b) ((fs[j]).a, (fs[j]).b) = true) : PlacePost N W fs f (.returned u) w' := by
  refine ⟨u, _, rfl, h, ?_, ?_, fun y hy => ?_⟩
  · rw [insP_last f.fnd hr i (by simpa using hi) (fun h0 hh => by rw [List.getElem_map]; exact h1 h0 (by simpa using hh)) (fun j hj hh => by rw [List.getElem_map]; exact h2 j hj (by simpa using hh))]
    simp
  · rw [List.length_append, List.length_cons, List.length_take, List.length_drop]
    omega
  · rcases List.mem_append.1 hy with hy | hy
    · exact Or.inr (List.mem_of_mem_take hy)
    · rcases List.mem_cons.1 hy with hy | hy
      · exact Or.inl hy
      · exact Or.inr (List.mem_of_mem_drop hy)

/-- Between two rounds of the shift. -/
theorem place_shift {fs : List Fd} {f : Fd} {m : Nat} (hm : m < fs.length) : ((fs.take (m + 1) ++ f :: fs.drop (m + 1)).set (m + 1) fs[m]).set m f = fs.take m ++ f :: fs.drop m := by
  have h1 : (fs.take (m + 1)).length = m + 1 := by rw [List.length_take]; omega
  have h2 : (fs.take m).length = m := by rw [List.length_take]; omega
  rw [List.set_append_right _ _ (by omega), h1, Nat.sub_self, List.set_cons_zero, List.take_succ_eq_append_getElem hm, List.append_assoc, List.set_append_right _ _ (by omega), h2, Nat.sub_self]
  conv => rhs; rw [List.drop_eq_getElem_cons hm]
  rfl

end Go.Proofs.Ytjehjjpdicimhaa

/-
  The contracts of the reference's class, Type, ID, Field and Temp.
-/
namespace Go.Proofs.Ytjehjjpdicimhaa
open Go.RowKit

end Go.Proofs.Ytjehjjpdicimhaa

/-
  The contracts of the reference's Key and Print.
-/
namespace Go.Proofs.Ytjehjjpdicimhaa
open Go.RowKit

end Go.Proofs.Ytjehjjpdicimhaa

/-
  The contract of the reference's May.
-/
namespace Go.Proofs.Ytjehjjpdicimhaa
open Go.RowKit

theorem step_of {fs : List Fld} {i : Nat} {f : Fld} (h : fs.getD i default = f) (h1 : fieldB f.1.data.toList = true) (h2 : 0 < f.2.length) (h3 : f.2.length ≤ 8) (h4 : ∀ t ∈ f.2, t.size ≤ 128) (h5 : i = 0 ∨ ltN (fs.getD (i - 1) default).1 f.1 = true) : stepOk fs i = true := by
  unfold stepOk fitsB
  rw [h, h1, decide_eq_true h3]
  have e1 : f.2.isEmpty = false := by
    cases hf : f.2 with
    | nil => rw [hf] at h2; simp at h2
    | cons _ _ => rfl
  have e2 : f.2.any longB = false := by
    rw [List.any_eq_false]
    intro t ht
    have := h4 t ht
    unfold longB
    simpa using this
  rw [e1, e2]
  rcases h5 with h5 | h5
  · rw [decide_eq_true h5]; rfl
  · rw [h5]; simp

theorem step_not {fs : List Fld} {i : Nat} {f : Fld} (h : fs.getD i default = f) (hn : fieldB f.1.data.toList = false ∨ f.2.length = 0 ∨ 8 < f.2.length ∨ (∃ t ∈ f.2, 128 < t.size) ∨ (i ≠ 0 ∧ ltN (fs.getD (i - 1) default).1 f.1 = false)) : stepOk fs i = false := by
  unfold stepOk fitsB
  rw [h]
  rcases hn with hn | hn | hn | ⟨t, ht, hn⟩ | ⟨hn, hm⟩
  · rw [hn]; rfl
  · rw [List.length_eq_zero_iff] at hn
    rw [hn]; simp
  · rw [decide_eq_false (by omega)]; simp
  · have : f.2.any longB = true := by
      rw [List.any_eq_true]
      exact ⟨t, ht, by unfold longB; simpa using hn⟩
    rw [this]; simp
  · rw [decide_eq_false hn, hm]; simp

end Go.Proofs.Ytjehjjpdicimhaa

/-
  The reference's set of writes (stage 11): Put, Delete, Get, Keys.
-/
namespace Go.Proofs.Ytjehjjpdicimhaa
open Go.RowKit

theorem getW_at {d : List Wx} (h : OkW (d.map Wx.row)) {j : Nat} (hj : j < d.length) : getW (d.map Wx.row) (d[j]).key = some (d[j]).row.2 := by
  have := getW_of (y := (d[j]).row) h.rise (List.mem_map_of_mem (List.getElem_mem hj))
  exact this

/-- What Get tells. -/
def GetPostW (W : World) (L : List RowW) (k : Ky) (e : Ending) (w' : World) : Prop :=
  (∃ v o, e = .returned (.tuple #[v, .bool (liveW (getW L k)), .bool (getW L k).isSome]) ∧ IsXs W v o ∧ FitX o ∧ CopyX o ∧ o.map Fx.fld = valW (getW L k)) ∧ Below W.heap.size W w'

theorem getPost_mk {W w' : World} {L : List RowW} {k : Ky} {v : Value} {o : List Fx} {lv th : Bool} (h1 : lv = liveW (getW L k)) (h2 : th = (getW L k).isSome) (h3 : IsXs W v o ∧ FitX o ∧ CopyX o) (h4 : o.map Fx.fld = valW (getW L k)) (hb : Below W.heap.size W w') : GetPostW W L k (.returned (.tuple #[v, .bool lv, .bool th])) w' := by
  subst h1 h2
  exact ⟨⟨v, o, rfl, h3.1, h3.2.1, h3.2.2, h4⟩, hb⟩
theorem isXs_nil (W : World) : IsXs W (.slice none 0 0) [] ∧ FitX [] ∧ CopyX [] := ⟨⟨none, 0, rfl, Or.inl rfl, fun _ h => by simp at h⟩, ⟨by unfold maxLen; simp, fun _ h => by simp at h⟩, ⟨by simp, fun _ h => by simp at h⟩⟩

theorem Try.infoKyW : (Try.prog.info? 27).map (fun i => (i.zero, i.size, i.bytes)) = some (some (.agg #[.string ⟨#[]⟩, .string ⟨#[]⟩]), 2, 32) := by kernel_rfl

end Go.Proofs.Ytjehjjpdicimhaa

/-
  The contracts of token and Token of package name, and of bar and Token of the reference.
-/
namespace Go.Proofs.Ytjehjjpdicimhaa
open Go.RowKit



def tokSys (s : ByteArray) : ByteArray := if 0 ≤ Lib.indexByte s.data.toList 124 then s.extract 0 (Lib.indexByte s.data.toList 124).toNat else ⟨#[]⟩
def tokCode (s : ByteArray) : ByteArray := if 0 ≤ Lib.indexByte s.data.toList 124 then s.extract ((Lib.indexByte s.data.toList 124).toNat + 1) s.size else s
def tokenB (p t : ByteArray) : Bool :=
  if 0 ≤ Lib.indexByte p.data.toList 124 then ((tokSys p).toList == (tokSys t).toList) && ((tokCode p).toList == (tokCode t).toList || (tokCode p).toList.isEmpty)
  else p.toList == (tokCode t).toList

theorem tok_no {s : ByteArray} (h : Lib.indexByte s.data.toList 124 = -1) : tokSys s = ⟨#[]⟩ ∧ tokCode s = s := by
  unfold tokSys tokCode; rw [h]; exact ⟨rfl, rfl⟩
theorem tok_yes {s : ByteArray} {i : Nat} (h : Lib.indexByte s.data.toList 124 = (i : Int)) : tokSys s = s.extract 0 i ∧ tokCode s = s.extract (i + 1) s.size := by
  unfold tokSys tokCode; rw [h, if_pos (by omega), if_pos (by omega), Int.toNat_natCast]; exact ⟨rfl, rfl⟩
theorem tokenB_bare {p : ByteArray} (t : ByteArray) (h : Lib.indexByte p.data.toList 124 = -1) : tokenB p t = (p.toList == (tokCode t).toList) := by
  unfold tokenB; rw [h]; rfl
theorem tokenB_bar {p : ByteArray} {i : Nat} (t : ByteArray) (h : Lib.indexByte p.data.toList 124 = (i : Int)) :
    tokenB p t = (((tokSys p).toList == (tokSys t).toList) && ((tokCode p).toList == (tokCode t).toList || (tokCode p).toList.isEmpty)) := by
  unfold tokenB; rw [h, if_pos (by omega)]

set_option maxHeartbeats 400000 in
theorem token_no (s : ByteArray) (w : World) (hix : Lib.indexByte s.data.toList 124 = -1) :
    Calls Try.prog 87 #[.string s] w fun e w' => e = .returned (.tuple #[.string ⟨#[]⟩, .string s]) ∧ w' = w := by
  have HX : Hid (Lib.indexByte s.data.toList 124 = -1) := hix
  clear hix
  go_enter Try.func87, Try.ntmps87
  go_wp2_with (go_at_call 92; refine (cut_no _ _ _ HX.out).mono ?_; rintro e w' ⟨rfl, rfl⟩)
  go_ret2
  exact ⟨rfl, rfl⟩

set_option maxHeartbeats 400000 in
theorem token_yes (s : ByteArray) (w : World) (i : Nat) (hix : Lib.indexByte s.data.toList 124 = (i : Int)) (hi : i < s.size) (hs : s.size ≤ maxLen) :
    Calls Try.prog 87 #[.string s] w fun e w' => e = .returned (.tuple #[.string (s.extract 0 i), .string (s.extract (i + 1) s.size)]) ∧ ∃ n, w' = w.drewN n := by
  have HX : Hid (Lib.indexByte s.data.toList 124 = (i : Int) ∧ i < s.size ∧ s.size ≤ maxLen) := ⟨hix, hi, hs⟩
  clear hix hi hs
  go_enter Try.func87, Try.ntmps87
  go_wp2_with (go_at_call 92; refine (cut_yes _ _ _ i HX.out.1 HX.out.2.1 HX.out.2.2).mono ?_; rintro e w' ⟨rfl, n, rfl⟩)
  go_ret2
  exact ⟨rfl, n, rfl⟩

theorem token_any (s : ByteArray) (w : World) (hs : s.size ≤ maxLen) :
    Calls Try.prog 87 #[.string s] w fun e w' => e = .returned (.tuple #[.string (tokSys s), .string (tokCode s)]) ∧ ∃ n, w' = w.drewN n := by
  rcases ix_cases s.data.toList 124 with ⟨h1, _⟩ | ⟨i, h1, h2, _, _⟩
  · rw [(tok_no h1).1, (tok_no h1).2]
    exact (token_no s w h1).mono fun e w' ⟨a, b⟩ => ⟨a, 0, by rw [b]; rfl⟩
  · rw [(tok_yes h1).1, (tok_yes h1).2]
    exact token_yes s w i h1 (by simpa using h2) hs

set_option maxHeartbeats 400000 in
theorem Token_any (p t : ByteArray) (w : World) (hp : p.size ≤ maxLen) (ht : t.size ≤ maxLen) :
    Calls Try.prog 75 #[.string p, .string t] w fun e w' => e = .returned (.bool (tokenB p t)) ∧ ∃ n, w' = w.drewN n := by
  have HS : Hid (p.size ≤ maxLen ∧ t.size ≤ maxLen) := ⟨hp, ht⟩
  clear hp ht
  rcases ix_cases p.data.toList 124 with ⟨h1, _⟩ | ⟨i, h1, _, _, _⟩
  · have HB := hid (tokenB_bare t h1)
    have hd : decide (0 ≤ Lib.indexByte p.data.toList 124) = false := by rw [h1]; rfl
    clear h1
    go_enter Try.func75, Try.ntmps75
    go_wp2_with (first | (go_at_call 87; refine (token_any _ _ HS.out.2).mono ?_; rintro e w' ⟨rfl, n, rfl⟩) | (go_at_call 88; refine (Try.strings_Contains_one _ _ _).mono ?_; rintro e w' ⟨rfl, rfl⟩))
    go_ret
    exact ⟨ret_bool (HB.out).symm, n, rfl⟩
  · have HB := hid (tokenB_bar t h1)
    have hd : decide (0 ≤ Lib.indexByte p.data.toList 124) = true := by rw [h1]; simp
    clear h1
    go_enter Try.func75, Try.ntmps75
    go_wp2_with fail
    refine (token_any _ _ HS.out.2).mono ?_
    rintro e w' ⟨rfl, n, rfl⟩
    go_wp2_with (go_at_call 88; refine (Try.strings_Contains_one _ _ _).mono ?_; rintro e w' ⟨rfl, rfl⟩)
    refine (token_any _ _ HS.out.1).mono ?_
    rintro e w' ⟨rfl, m, rfl⟩
    cases e1 : ((tokSys p).toList == (tokSys t).toList)
    · go_wp2_with fail
      go_ret
      exact ⟨ret_bool (by rw [HB.out, e1]; rfl), _, rfl⟩
    · cases e2 : ((tokCode p).toList == (tokCode t).toList)
      · go_wp2_with fail
        go_ret
        exact ⟨ret_bool (by rw [HB.out, e1, e2]; rfl), _, rfl⟩
      · go_wp2_with fail
        go_ret
        exact ⟨ret_bool (by rw [HB.out, e1, e2]; rfl), _, rfl⟩

end Go.Proofs.Ytjehjjpdicimhaa

/-
  The contracts of the reference's bar and Token.
-/
namespace Go.Proofs.Ytjehjjpdicimhaa
open Go.RowKit

/-- No byte c among the first k. -/
theorem ix_none_of (s : ByteArray) (c : UInt8) (h : ∀ j, (hj : j < s.size) → s[j] ≠ c) : Lib.indexByte s.data.toList c = -1 := by
  rcases ix_cases s.data.toList c with ⟨h1, _⟩ | ⟨i, _, h2, h3, _⟩
  · exact h1
  · have hi : i < s.size := by simpa using h2
    rw [Lib.data_getElem? s i hi] at h3
    exact absurd (Option.some.inj h3) (h i hi)

theorem ix_at_of (s : ByteArray) (c : UInt8) (k : Nat) (hk : k < s.size) (h : ∀ j, j < k → (hj : j < s.size) → s[j] ≠ c) (hc : s[k] = c) : Lib.indexByte s.data.toList c = (k : Int) := by
  rcases ix_cases s.data.toList c with ⟨_, h2⟩ | ⟨i, h1, h2, h3, h4⟩
  · exfalso
    apply h2
    rw [← hc, ← byte_at s k hk]
    exact List.getElem_mem _
  · have hi : i < s.size := by simpa using h2
    rw [Lib.data_getElem? s i hi] at h3
    have e3 := Option.some.inj h3
    rcases Nat.lt_trichotomy i k with hl | rfl | hl
    · exact absurd e3 (h i hl hi)
    · exact h1
    · exfalso
      apply h4
      rw [← hc, ← byte_at s k hk]
      rw [List.mem_iff_getElem]
      exact ⟨k, by simp; omega, by rw [List.getElem_take]⟩

theorem beq_nil_isEmpty (l : List UInt8) : (l == (⟨#[]⟩ : ByteArray).toList) = l.isEmpty := by
  rw [Lib.toList_data]
  cases l <;> rfl

end Go.Proofs.Ytjehjjpdicimhaa

/-
  What terms mean; the contracts of the reference's begins, Holds and Match.
-/
namespace Go.Proofs.Ytjehjjpdicimhaa
open Go.RowKit

/-- Does s begin with t? -/
def beginsB (s t : ByteArray) : Bool := decide (t.size ≤ s.size) && ((s.extract 0 t.size).toList == t.toList)

/-- Does a term hold of these texts? -/
def holdsT (x : Tm) (ts : List ByteArray) : Bool :=
  if x.2.1 = 1 then ts.any (tokenB x.2.2) else if x.2.1 = 2 then !ts.any (tokenB x.2.2) else if x.2.1 = 3 then ts.any (fun t => beginsB t x.2.2) else
  if x.2.1 = 4 then ts.any (fun t => ltB t x.2.2) else if x.2.1 = 5 then ts.any (fun t => ltB x.2.2 t) else if x.2.1 = 6 then decide (0 < ts.length) else if x.2.1 = 7 then decide (ts.length = 0) else false
def holdsM (x : Tm) (fs : List Fld) : Bool := holdsT x (textsOf fs x.1)
def matchM (p : List Tm) (fs : List Fld) : Bool := p.all fun x => holdsM x fs

theorem any_snocT {ts : List ByteArray} {f : ByteArray → Bool} {i : Nat} (h : i < ts.length) : (ts.take (i + 1)).any f = ((ts.take i).any f || f ts[i]) := by
  rw [List.take_succ_eq_append_getElem h, List.any_append]
  simp

theorem gtr_of (t x : ByteArray) : (!ltB t x && !(t.toList == x.toList)) = ltB x t := by
  rcases ltB_cases t x with h | h | h
  · rw [h, ltB_asymm h]; rfl
  · subst h; rw [ltB_irrefl]; simp
  · rw [h, ltB_asymm h, seq_false (fun e => by subst e; rw [ltB_irrefl] at h; cases h)]; rfl

end Go.Proofs.Ytjehjjpdicimhaa

/-
  The reference's set of writes (stage 11): Over.
-/
namespace Go.Proofs.Ytjehjjpdicimhaa
open Go.RowKit

/-- What Over of the reference tells: a row of its own; the values lie where they lay. -/
def OverPost (W : World) (l : List Fnd) (e : Ending) (w' : World) : Prop :=
  ∃ u fs, e = .returned u ∧ KFd.Own W.heap.size w' u fs ∧ (∀ f ∈ fs, f.v.at W ∧ FitX f.v.o) ∧ fs.map Fd.fnd = l ∧ Below W.heap.size W w'
/-- The same, whatever the values that came in are. -/
def OverPostT (W : World) (T : Vx → Prop) (l : List Fnd) (e : Ending) (w' : World) : Prop :=
  ∃ u fs, e = .returned u ∧ KFd.Own W.heap.size w' u fs ∧ (∀ f ∈ fs, T f.v) ∧ fs.map Fd.fnd = l ∧ Below W.heap.size W w'

/-- Finds on their way. -/
structure OvSt (W : World) (T : Vx → Prop) (v : Value) (fs : List Fd) (pre : List Fnd) (w : World) : Prop where
  row : RowSt KFd W.heap.size W v fs w
  at' : ∀ f ∈ fs, T f.v
  eq : fs.map Fd.fnd = sortP pre
theorem OvSt.len {W : World} {T : Vx → Prop} {v : Value} {fs : List Fd} {pre : List Fnd} {w : World} (h : OvSt W T v fs pre w) : fs.length = pre.length := by
  have := congrArg List.length h.eq
  rw [List.length_map, sortP_len] at this
  exact this
theorem OvSt.on {W : World} {T : Vx → Prop} {v : Value} {fs : List Fd} {pre : List Fnd} {w w' : World} (h : OvSt W T v fs pre w) (hb : Below w.heap.size w w') : OvSt W T v fs pre w' := ⟨h.row.on hb, h.at', h.eq⟩

/-- What of the writes is to be found, as far as they are looked at. -/
def hitsX (d : List Wx) (typ : ByteArray) (m : List Fld → Bool) : List Fnd := d.filterMap fun x => hitW typ m x.row
theorem hitsX_all (d : List Wx) (typ : ByteArray) (m : List Fld → Bool) : hitsX d typ m = hitsW (d.map Wx.row) typ m := by
  unfold hitsX hitsW
  rw [List.filterMap_map]
  rfl
theorem hitsX_len (d : List Wx) (typ : ByteArray) (m : List Fld → Bool) : (hitsX d typ m).length ≤ d.length := List.length_filterMap_le _ _
theorem hitsX_snoc (d : List Wx) (x : Wx) (typ : ByteArray) (m : List Fld → Bool) : hitsX (d ++ [x]) typ m = hitsX d typ m ++ (hitW typ m x.row).toList := by
  unfold hitsX
  rw [List.filterMap_append]
  congr 1

theorem freeW_snoc (L : List RowW) (fs : List Fnd) (f : Fnd) : freeW L (fs ++ [f]) = freeW L fs ++ (if (getW L f.1).isNone then [f] else []) := by
  unfold freeW
  rw [List.filter_append]
  congr 1
  by_cases h : (getW L f.1).isNone
  · rw [if_pos h]; simp [h]
  · rw [if_neg h]; simp [h]
theorem freeW_len (L : List RowW) (fs : List Fnd) : (freeW L fs).length ≤ fs.length := List.length_filter_le _ _

end Go.Proofs.Ytjehjjpdicimhaa

/-
  Finds that are told anew: each find's value in memory of its own (stage 11); the reference's copy of a version.
-/
namespace Go.Proofs.Ytjehjjpdicimhaa
open Go.RowKit

/-- No two finds share memory. -/
def ApartF (fs : List Fd) : Prop := fs.Pairwise fun x y => ∀ k, BlkV x.v k → ¬ BlkV y.v k

/-- What a list of finds, told anew, is. -/
def FoPost (w : World) (l : List Fnd) (e : Ending) (w' : World) : Prop :=
  ∃ u fs, e = .returned u ∧ KFd.Own w.heap.size w' u fs ∧ (∀ f ∈ fs, OwnJ w.heap.size w' f.v.sl f.v.o ∧ FitX f.v.o) ∧ ApartF fs ∧ fs.map Fd.fnd = l ∧ Below w.heap.size w w'

/-- What a copy of a version is. -/
def VerPost (w : World) (x : Vx) (e : Ending) (w' : World) : Prop :=
  ∃ p c o, e = .returned (.agg (encVx ⟨x.num, x.stamp, x.tick, x.live, p, c, o⟩).toArray) ∧ OwnJ w.heap.size w' (.slice p o.length c) o ∧ o.map Fx.fld = x.o.map Fx.fld ∧ Below w.heap.size w w'

end Go.Proofs.Ytjehjjpdicimhaa

/-
  Finds and keys that came in. No program.
-/
namespace Go.Proofs.Ytjehjjpdicimhaa
open Go.RowKit

def FitKy (k : Ky) : Prop := k.1.size ≤ maxLen ∧ k.2.size ≤ maxLen

/-- Finds that came in. -/
structure FoundIn (W : World) (v : Value) (fo : List Fd) : Prop where
  is : KFd.Is W v fo
  each : ∀ f ∈ fo, f.v.at W ∧ FitX f.v.o ∧ CopyX f.v.o
  kfit : ∀ f ∈ fo, FitKy (f.a, f.b)
theorem FoundIn.on {W W' : World} {v : Value} {fo : List Fd} (h : FoundIn W v fo) (hb : Below W.heap.size W W') : FoundIn W' v fo :=
  ⟨Kind.is_kept h.is hb, fun f hf => ⟨IsXs.kept (h.each f hf).1 hb, (h.each f hf).2⟩, h.kfit⟩


end Go.Proofs.Ytjehjjpdicimhaa

/-
  What the laws of stage 11 lean on of package writes: a set in memory, and its calls. (Filled in where the package has landed.)
-/
namespace Go.Proofs.Ytjehjjpdicimhaa
open Go.RowKit

/-- What Get of the program tells: a value in memory of its own. -/
def GetPostP (W : World) (L : List RowW) (k : Ky) (e : Ending) (w' : World) : Prop :=
  ∃ p c o, e = .returned (.tuple #[.slice p o.length c, .bool (liveW (getW L k)), .bool (getW L k).isSome]) ∧ OwnJ W.heap.size w' (.slice p o.length c) o ∧ o.map Fx.fld = valW (getW L k) ∧ Below W.heap.size W w'
/-- What Keys tells. -/
def KeysPost (W : World) (l : List Ky) (e : Ending) (w' : World) : Prop := ∃ u, e = .returned u ∧ KK.Own W.heap.size w' u l ∧ Below W.heap.size W w'

structure SetApi where
  Prg : Nat → World → (Nat → Prop) → Nat → List RowW → Prop
  blk : ∀ {n0 W B g L}, Prg n0 W B g L → ∀ k, B k → n0 ≤ k ∧ k < W.heap.size
  own : ∀ {n0 W B g L}, Prg n0 W B g L → B g
  fr : ∀ {n0 W B g L W' P}, Prg n0 W B g L → Fr P W W' → (∀ k, B k → ¬ P k) → Prg n0 W' B g L
  ok : ∀ {n0 W B g L}, Prg n0 W B g L → OkW L
  new : ∀ (n0 : Nat) (W : World), n0 ≤ W.heap.size → Calls Try.prog 7 #[] W fun e w' => ∃ B g, e = .returned (.pointer (some ⟨g, 0, none⟩)) ∧ Prg n0 w' B g [] ∧ Below W.heap.size W w' ∧ ∀ k, B k → W.heap.size ≤ k
  put : ∀ {n0 W B g L}, Prg n0 W B g L → n0 ≤ W.heap.size → L.length < 1300000000000 → ∀ (k : Ky), FitKy k → ∀ (v : Value) (o : List Fx) (val : List Fld), IsXs W v o → FitX o → o.map Fx.fld = val →
    Calls Try.prog 8 #[.pointer (some ⟨g, 0, none⟩), .agg #[.string k.1, .string k.2], v] W fun e w' => e = .returned (.int .i64 (codePW k val)) ∧ ∃ B', Prg n0 w' B' g (putW L k val) ∧ Fr B W w' ∧ ∀ k, B' k → B k ∨ W.heap.size ≤ k
  del : ∀ {n0 W B g L}, Prg n0 W B g L → n0 ≤ W.heap.size → L.length < 1300000000000 → ∀ (k : Ky), FitKy k →
    Calls Try.prog 9 #[.pointer (some ⟨g, 0, none⟩), .agg #[.string k.1, .string k.2]] W fun e w' => e = .returned (.int .i64 (codeDW k)) ∧ ∃ B', Prg n0 w' B' g (dltW L k) ∧ Fr B W w' ∧ ∀ k, B' k → B k ∨ W.heap.size ≤ k
  forget : ∀ {n0 W B g L}, Prg n0 W B g L → n0 ≤ W.heap.size → L.length ≤ 1300000000000 → ∀ (k : Ky), FitKy k →
    Calls Try.prog 10 #[.pointer (some ⟨g, 0, none⟩), .agg #[.string k.1, .string k.2]] W fun e w' => e = .returned (.bool (getW L k).isSome) ∧ ∃ B', Prg n0 w' B' g (delW L k) ∧ Fr B W w' ∧ ∀ k, B' k → B k ∨ W.heap.size ≤ k
  get : ∀ {n0 W B g L}, Prg n0 W B g L → L.length ≤ 1300000000000 → ∀ (k : Ky), FitKy k →
    Calls Try.prog 11 #[.pointer (some ⟨g, 0, none⟩), .agg #[.string k.1, .string k.2]] W fun e w' => GetPostP W L k e w'
  keys : ∀ {n0 W B g L}, Prg n0 W B g L → L.length ≤ 1300000000000 → Calls Try.prog 13 #[.pointer (some ⟨g, 0, none⟩)] W fun e w' => KeysPost W (keysW L) e w'
  len : ∀ {n0 W B g L}, Prg n0 W B g L → L.length ≤ 1300000000000 → Calls Try.prog 14 #[.pointer (some ⟨g, 0, none⟩)] W fun e w' => e = .returned (.int .i64 (L.length : Nat)) ∧ Below W.heap.size W w'
  over : ∀ {n0 W B g L}, Prg n0 W B g L → ∀ (vf : Value) (fo : List Fd), FoundIn W vf fo → ∀ (typ : ByteArray) (vp : Value) (pt : List Tm), KM.Is W vp pt → FitM pt → fo.length + L.length ≤ 100000000 →
    Calls Try.prog 15 #[.pointer (some ⟨g, 0, none⟩), vf, .string typ, vp] W fun e w' => FoPost W (overW L (fo.map Fd.fnd) typ (matchM pt)) e w'
  put_nil : ∀ (W : World) (k : Ky) (v : Value), Calls Try.prog 8 #[.pointer none, .agg #[.string k.1, .string k.2], v] W fun e w' => e = .returned (.int .i64 1) ∧ Below W.heap.size W w'
  del_nil : ∀ (W : World) (k : Ky), Calls Try.prog 9 #[.pointer none, .agg #[.string k.1, .string k.2]] W fun e w' => e = .returned (.int .i64 1) ∧ Below W.heap.size W w'
  forget_nil : ∀ (W : World) (k : Ky), FitKy k → Calls Try.prog 10 #[.pointer none, .agg #[.string k.1, .string k.2]] W fun e w' => e = .returned (.bool false) ∧ Below W.heap.size W w'
  get_nil : ∀ (W : World) (k : Ky), FitKy k → Calls Try.prog 11 #[.pointer none, .agg #[.string k.1, .string k.2]] W fun e w' => GetPostP W [] k e w'
  keys_nil : ∀ (W : World), Calls Try.prog 13 #[.pointer none] W fun e w' => KeysPost W [] e w'
  len_nil : ∀ (W : World), Calls Try.prog 14 #[.pointer none] W fun e w' => e = .returned (.int .i64 0) ∧ Below W.heap.size W w'
  over_nil : ∀ (W : World) (vf : Value) (fo : List Fd), FoundIn W vf fo → ∀ (typ : ByteArray) (vp : Value) (pt : List Tm), KM.Is W vp pt → FitM pt → fo.length ≤ 100000000 →
    Calls Try.prog 15 #[.pointer none, vf, .string typ, vp] W fun e w' => FoPost W (overW [] (fo.map Fd.fnd) typ (matchM pt)) e w'

variable (S : SetApi)

theorem SetApi.on {n0 : Nat} {W W' : World} {B : Nat → Prop} {g : Nat} {L : List RowW} (h : S.Prg n0 W B g L) (hb : Below W.heap.size W W') : S.Prg n0 W' B g L :=
  S.fr (P := fun _ => False) h (Fr.of_below hb) fun _ _ k => k

/-- A set of the program along a run: from V on only C's blocks, and new ones, have turned. -/
def OneW (n0 : Nat) (V : World) (C : Nat → Prop) (g : Nat) (L : List RowW) (W : World) : Prop := ∃ B, S.Prg n0 W B g L ∧ Fr C V W ∧ ∀ k, B k → C k ∨ V.heap.size ≤ k

section
variable {S} {n0 : Nat} {V : World} {C : Nat → Prop} {g : Nat} {L : List RowW} {W : World}
theorem OneW.start {B : Nat → Prop} (h : S.Prg n0 V B g L) : OneW S n0 V B g L V := ⟨B, h, Fr.refl _ _, fun _ hk => Or.inl hk⟩
theorem OneW.turn {B : Nat → Prop} {L' : List RowW} {w' : World} (f : Fr C V W) (hB : ∀ k, B k → C k ∨ V.heap.size ≤ k) (h : ∃ B', S.Prg n0 w' B' g L' ∧ Fr B W w' ∧ ∀ k, B' k → B k ∨ W.heap.size ≤ k) : OneW S n0 V C g L' w' := by
  obtain ⟨B', h1, h2, h3⟩ := h
  exact ⟨B', h1, f.then h2 hB, fun k hk => (h3 k hk).elim (hB k) fun h => Or.inr (Nat.le_trans f.size h)⟩
theorem OneW.on {W' : World} (h : OneW S n0 V C g L W) (hb : Below W.heap.size W W') : OneW S n0 V C g L W' := by
  obtain ⟨B, h1, h2, h3⟩ := h
  exact ⟨B, S.on h1 hb, Fr.then h2 (Fr.of_below (P := fun _ => False) hb) fun _ h => h.elim, h3⟩
theorem OneW.below (h : OneW S n0 V C g L W) {N : Nat} (hN : N ≤ V.heap.size) (hC : ∀ k, C k → N ≤ k) : Below N V W := by
  obtain ⟨B, h1, h2, h3⟩ := h
  exact h2.below hN hC
theorem OneW.size (h : OneW S n0 V C g L W) : V.heap.size ≤ W.heap.size := by
  obtain ⟨B, h1, h2, h3⟩ := h
  exact h2.size
theorem OneW.block (h : OneW S n0 V C g L W) {b : Nat} (hb : b < V.heap.size) (hC : ¬ C b) : W.heap[b]? = V.heap[b]? := by
  obtain ⟨B, h1, h2, h3⟩ := h
  exact h2.block b hb hC
theorem OneW.ok (h : OneW S n0 V C g L W) : OkW L := by
  obtain ⟨B, h1, _⟩ := h
  exact S.ok h1

section
variable (h : OneW S n0 V C g L W)
include h
theorem onew_put (hn : n0 ≤ W.heap.size) (hl : L.length < 1300000000000) (k : Ky) (hk : FitKy k) (v : Value) (o : List Fx) (val : List Fld) (hv : IsXs W v o) (hf : FitX o) (hval : o.map Fx.fld = val) :
    Calls Try.prog 8 #[.pointer (some ⟨g, 0, none⟩), .agg #[.string k.1, .string k.2], v] W fun e w' => e = .returned (.int .i64 (codePW k val)) ∧ OneW S n0 V C g (putW L k val) w' := by
  obtain ⟨B, h1, h2, h3⟩ := h
  exact (S.put h1 hn hl k hk v o val hv hf hval).mono fun e w' q => ⟨q.1, OneW.turn h2 h3 q.2⟩
theorem onew_del (hn : n0 ≤ W.heap.size) (hl : L.length < 1300000000000) (k : Ky) (hk : FitKy k) :
    Calls Try.prog 9 #[.pointer (some ⟨g, 0, none⟩), .agg #[.string k.1, .string k.2]] W fun e w' => e = .returned (.int .i64 (codeDW k)) ∧ OneW S n0 V C g (dltW L k) w' := by
  obtain ⟨B, h1, h2, h3⟩ := h
  exact (S.del h1 hn hl k hk).mono fun e w' q => ⟨q.1, OneW.turn h2 h3 q.2⟩
theorem onew_forget (hn : n0 ≤ W.heap.size) (hl : L.length ≤ 1300000000000) (k : Ky) (hk : FitKy k) :
    Calls Try.prog 10 #[.pointer (some ⟨g, 0, none⟩), .agg #[.string k.1, .string k.2]] W fun e w' => e = .returned (.bool (getW L k).isSome) ∧ OneW S n0 V C g (delW L k) w' := by
  obtain ⟨B, h1, h2, h3⟩ := h
  exact (S.forget h1 hn hl k hk).mono fun e w' q => ⟨q.1, OneW.turn h2 h3 q.2⟩
theorem onew_get (hl : L.length ≤ 1300000000000) (k : Ky) (hk : FitKy k) :
    Calls Try.prog 11 #[.pointer (some ⟨g, 0, none⟩), .agg #[.string k.1, .string k.2]] W fun e w' => GetPostP W L k e w' := by
  obtain ⟨B, h1, h2, h3⟩ := h
  exact S.get h1 hl k hk
theorem onew_keys (hl : L.length ≤ 1300000000000) : Calls Try.prog 13 #[.pointer (some ⟨g, 0, none⟩)] W fun e w' => KeysPost W (keysW L) e w' := by
  obtain ⟨B, h1, h2, h3⟩ := h
  exact S.keys h1 hl
theorem onew_len (hl : L.length ≤ 1300000000000) : Calls Try.prog 14 #[.pointer (some ⟨g, 0, none⟩)] W fun e w' => e = .returned (.int .i64 (L.length : Nat)) ∧ Below W.heap.size W w' := by
  obtain ⟨B, h1, h2, h3⟩ := h
  exact S.len h1 hl
theorem onew_over (vf : Value) (fo : List Fd) (hfo : FoundIn W vf fo) (typ : ByteArray) (vp : Value) (pt : List Tm) (hp : KM.Is W vp pt) (hpf : FitM pt) (hl : fo.length + L.length ≤ 100000000) :
    Calls Try.prog 15 #[.pointer (some ⟨g, 0, none⟩), vf, .string typ, vp] W fun e w' => FoPost W (overW L (fo.map Fd.fnd) typ (matchM pt)) e w' := by
  obtain ⟨B, h1, h2, h3⟩ := h
  exact S.over h1 vf fo hfo typ vp pt hp hpf hl
end
end

theorem onew_new (W : World) : Calls Try.prog 7 #[] W fun e w' => ∃ g, e = .returned (.pointer (some ⟨g, 0, none⟩)) ∧ OneW S W.heap.size W (fun _ => False) g [] w' :=
  (S.new W.heap.size W (Nat.le_refl _)).mono fun _ _ ⟨B, g, he, hp, hb, hB⟩ => ⟨g, he, B, hp, Fr.of_below hb, fun k hk => Or.inr (hB k hk)⟩

/-! ## Operations -/

/-- An operation as it lies in memory. -/
structure Ow where
  kind : Int
  a : ByteArray
  b : ByteArray
  p : Option Addr
  cap : Nat
  o : List Fx
  q : Option Addr
  qcap : Nat
  tm : List Tm
  r : Option Addr
  rcap : Nat
  fd : List Fd
  deriving Inhabited

def Ow.val (x : Ow) : List Fld := x.o.map Fx.fld
def Ow.key (x : Ow) : Ky := (x.a, x.b)
def encOw (x : Ow) : List Value := [.int .i64 x.kind, .string x.a, .string x.b, .slice x.p x.o.length x.cap, .slice x.q x.tm.length x.qcap, .slice x.r x.fd.length x.rcap]
def KOw : Kind Ow := ⟨32, 6, encOw, fun _ => rfl, by decide, fun x u hu => by simp [encOw] at hu; rcases hu with rfl | rfl | rfl | rfl | rfl | rfl <;> rfl⟩

structure OpW (w : World) (x : Ow) : Prop where
  is : IsXs w (.slice x.p x.o.length x.cap) x.o
  fit : FitX x.o
  copy : CopyX x.o
  pis : KM.Is w (.slice x.q x.tm.length x.qcap) x.tm
  pfit : FitM x.tm
  fis : FoundIn w (.slice x.r x.fd.length x.rcap) x.fd
  kfit : FitKy x.key
theorem OpW.on {w W : World} {x : Ow} (h : OpW w x) (hb : Below w.heap.size w W) : OpW W x := ⟨h.is.kept hb, h.fit, h.copy, Kind.is_kept h.pis hb, h.pfit, h.fis.on hb, h.kfit⟩

theorem kow_at {w : World} {b off : Nat} {d : List Ow} (h : KOw.At w b off d) (i : Nat) (hi : i < d.length) :
    w.cell? ⟨b, off + i * 6, none⟩ = some (.int .i64 (d[i]).kind) ∧ w.cell? ⟨b, off + i * 6 + 1, none⟩ = some (.string (d[i]).a) ∧ w.cell? ⟨b, off + i * 6 + 2, none⟩ = some (.string (d[i]).b) ∧ w.cell? ⟨b, off + i * 6 + 3, none⟩ = some (.slice (d[i]).p (d[i]).o.length (d[i]).cap) ∧ w.cell? ⟨b, off + i * 6 + 4, none⟩ = some (.slice (d[i]).q (d[i]).tm.length (d[i]).qcap) ∧ w.cell? ⟨b, off + i * 6 + 5, none⟩ = some (.slice (d[i]).r (d[i]).fd.length (d[i]).rcap) :=
  ⟨h i hi 0 _ rfl, h i hi 1 _ rfl, h i hi 2 _ rfl, h i hi 3 _ rfl, h i hi 4 _ rfl, h i hi 5 _ rfl⟩

end Go.Proofs.Ytjehjjpdicimhaa

/-
  Keys of maps: a key of api (a type and an id) as a map's key reads.
-/
namespace Go.Proofs.Ytjehjjpdicimhaa
open Go.RowKit Go.Lib Go.Maps Go.MapKept Go.ChangeMaps

theorem Try.laidOutY : laidOutB Try.prog = true := by kernel_rfl
theorem Try.rowKey : (27 : TypeId) < Try.prog.types.size := of_decide_eq_true (by kernel_rfl)
theorem Try.wideKey : (match Try.prog.underlying 27 with | some (.array _ _) | some (.struct _) => true | _ => false) = true := by rw [Try.underlying27]
set_option maxRecDepth 100000 in
theorem Try.lawKey : WideMaps.KeyLaw Try.prog 27 := deep_law_laid Try.laidOutY (m := 2) (by omega) Try.rowKey (by kernel_rfl) Try.wideKey
theorem Try.keyedKey : Keyed Try.prog 27 := Keyed.of_law Try.lawKey
theorem Try.keyKey : Try.prog.keyType 27 = true := by kernel_rfl
theorem Try.cellsKey : Try.prog.cellsOf 27 = 2 := by kernel_rfl
theorem Try.cellsStrY : Try.prog.cellsOf 9 = 1 := by kernel_rfl

/-- A key that a machine can hold. -/
def FitK (x : Ky) : Prop := x.1.size ≤ maxLen ∧ x.2.size ≤ maxLen
instance (x : Ky) : Decidable (FitK x) := inferInstanceAs (Decidable (_ ∧ _))
def valK (x : Ky) : Value := .agg #[.string x.1, .string x.2]

set_option maxRecDepth 100000 in
theorem keyOf_valK (x : Ky) : (keyOf Try.prog 27 (valK x)).isSome = decide (FitK x) := by
  obtain ⟨m, hm⟩ : ∃ m, Try.prog.types.size + 1 = m + 2 := ⟨Try.prog.types.size - 1, by have h : (27 : Nat) < Try.prog.types.size := Try.rowKey; omega⟩
  have hformed : (valK x).formed Try.prog 27 = true := by simp [valK, Value.formed, Try.underlying27, Try.cellsKey]
  unfold keyOf
  rw [Try.underlying27]
  simp only [Try.keyKey, hformed, Bool.and_self, if_true]
  rw [hm]
  simp only [valK, Value.cells, FitK]
  by_cases h1 : x.1.size ≤ maxLen
  · by_cases h2 : x.2.size ≤ maxLen
    · simp [Program.keyLits, Try.underlying27, Try.cellsKey, Try.cellsStrY, Try.underlying9, h1, h2]
    · simp [Program.keyLits, Try.underlying27, Try.cellsKey, Try.cellsStrY, Try.underlying9, h1, h2]
  · simp [Program.keyLits, Try.underlying27, Try.cellsKey, Try.cellsStrY, Try.underlying9, h1]

/-- What a key reads as. -/
noncomputable def keyL (x : Ky) : Lit := (keyOf Try.prog 27 (valK x)).getD (.bool false)
theorem keyL_is {x : Ky} (h : FitK x) : keyOf Try.prog 27 (valK x) = some (keyL x) := by
  have h1 := keyOf_valK x
  rw [decide_eq_true h] at h1
  obtain ⟨l, hl⟩ := Option.isSome_iff_exists.1 h1
  unfold keyL
  rw [hl]
  rfl
set_option maxRecDepth 100000 in
theorem keyL_fit {x : Ky} {l : Lit} (h : keyOf Try.prog 27 (valK x) = some l) : FitK x ∧ l = keyL x := by
  have h1 := keyOf_valK x
  rw [h] at h1
  have h2 : FitK x := of_decide_eq_true h1.symm
  exact ⟨h2, by rw [keyL_is h2] at h; injection h with h; exact h.symm⟩
set_option maxRecDepth 100000 in
theorem keyL_inj {x y : Ky} (hx : FitK x) (hy : FitK y) (h : keyL x = keyL y) : x = y := by
  have h1 := keyL_is hx
  rw [h] at h1
  have e := Try.keyedKey.inj h1 (keyL_is hy)
  obtain ⟨a, b⟩ := x
  obtain ⟨a', b'⟩ := y
  simp [valK] at e
  obtain ⟨rfl, rfl⟩ := e
  rfl

set_option maxRecDepth 100000 in
theorem keyL_inv (key : Value) (kl : Lit) (h : keyOf Try.prog 27 key = some kl) : ∃ x, key = valK x := by
  obtain ⟨m, hm⟩ : ∃ m, Try.prog.types.size + 1 = m + 2 := ⟨Try.prog.types.size - 1, by have h : (27 : Nat) < Try.prog.types.size := Try.rowKey; omega⟩
  unfold keyOf at h
  rw [Try.underlying27] at h
  simp only [Try.keyKey, Bool.true_and] at h
  split at h
  · next hf =>
    unfold Value.formed at hf
    rw [Try.underlying27] at hf
    cases key <;> simp at hf
    next cs =>
      rw [Try.cellsKey] at hf
      rw [hm] at h
      obtain ⟨l⟩ := cs
      match l, hf with
      | [a, b], _ =>
        simp only [Value.cells] at h
        simp [Program.keyLits, Try.underlying27, Try.cellsKey, Try.cellsStrY, Try.underlying9] at h
        cases a with
        | string a =>
          cases b with
          | string b => exact ⟨(a, b), rfl⟩
          | _ =>
            exfalso
            by_cases hs : a.size ≤ maxLen
            · simp [hs] at h
            · simp [hs] at h
        | _ => simp at h
  · cases h

end Go.Proofs.Ytjehjjpdicimhaa

/-
  Maps in memory, for whatever keys and elements: what stands at each key, how many there are; look-ups, stores, deletes, ranges.
-/
namespace Go.Proofs.Ytjehjjpdicimhaa
open Go.RowKit Go.Maps

/-- Keys and elements of a map's type. -/
structure MKind (κ ε : Type) where
  K : TypeId
  E : TypeId
  M : TypeId
  key : κ → Value
  lit : κ → Lit
  fit : κ → Prop
  val : ε → Value
  enc : ε → DataW Unit
  read : Value → Option (DataW Unit × List MemPlace)
  zero : ε
  und : Try.prog.underlying M = some (.map K E)
  keyed : Keyed Try.prog K
  key_is : ∀ x, fit x → keyOf Try.prog K (key x) = some (lit x)
  key_fit : ∀ x l, keyOf Try.prog K (key x) = some l → fit x ∧ l = lit x
  key_inv : ∀ v l, keyOf Try.prog K v = some l → ∃ x, v = key x
  lit_inj : ∀ x y, fit x → fit y → lit x = lit y → x = y
  read_mk : ∀ e, read (val e) = some (enc e, [])
  read_inv : ∀ v y, read v = some y → ∃ e, v = val e
  enc_inj : ∀ a b, enc a = enc b → a = b
  zeroV : ∀ w, (zeroValue E).run Try.prog w = .ok (val zero) w

/-- Block m is a map (of at most n entries at any time) of c entries that has f k at the key k. -/
def MapG {κ ε : Type} (T : MKind κ ε) (W : World) (m n : Nat) (f : κ → Option ε) (c : Nat) : Prop :=
  ∃ D : DataW Unit, W.ownsMap Try.prog T.K T.read m n D ∧ (∀ k, T.fit k → D.atKey (T.lit k) (T.enc T.zero) = T.enc ((f k).getD T.zero)) ∧ (∀ k, T.fit k → Maps.has D (T.lit k) = (f k).isSome) ∧ Maps.size D = c

section
variable {κ ε : Type} {T : MKind κ ε} {W : World} {m n : Nat} {f : κ → Option ε} {c : Nat}

theorem mapG_made (T : MKind κ ε) (w : World) : MapG T (w.alloc (.map #[] 0)) w.heap.size 0 (fun _ => none) 0 := ⟨.map [], World.ownsMap_made _ _ _ _, fun _ _ => rfl, fun _ _ => rfl, rfl⟩
theorem MapG.lt (h : MapG T W m n f c) : m < W.heap.size := by obtain ⟨D, h, _⟩ := h; exact h.lt
theorem MapG.on {W' : World} (h : MapG T W m n f c) (hb : W'.heap[m]? = W.heap[m]?) : MapG T W' m n f c := by
  obtain ⟨D, ⟨es, clock, h1, h2⟩, h3⟩ := h
  exact ⟨D, ⟨es, clock, hb.trans h1, h2⟩, h3⟩
theorem MapG.mono {n' : Nat} (h : MapG T W m n f c) (hm : n ≤ n') : MapG T W m n' f c := by
  obtain ⟨D, h1, h3⟩ := h
  exact ⟨D, h1.mono hm, h3⟩
theorem MapG.congr {f' : κ → Option ε} (h : MapG T W m n f c) (hf : ∀ k, T.fit k → f k = f' k) : MapG T W m n f' c := by
  obtain ⟨D, h1, h2, h3, h4⟩ := h
  exact ⟨D, h1, fun k hk => by rw [← hf k hk]; exact h2 k hk, fun k hk => by rw [← hf k hk]; exact h3 k hk, h4⟩
theorem MapG.obj (h : MapG T W m n f c) : ∃ es clock, W.heap[m]? = some (.map es clock) := by
  obtain ⟨D, ⟨es, clock, h1, h2⟩, h3⟩ := h
  exact ⟨es, clock, h1⟩
theorem MapG.le (h : MapG T W m n f c) : c ≤ n := by
  obtain ⟨D, h1, _, _, rfl⟩ := h
  exact h1.size_le
theorem MapG.off (h : MapG T W m n f c) {b : Nat} {cs : Array Value} {t : TypeId} {fr : Nat × Nat} (hc : W.heap[b]? = some (.cells cs t fr)) : b ≠ m := by
  obtain ⟨es, clock, h1⟩ := h.obj
  rintro rfl
  rw [hc] at h1
  cases h1

set_option maxRecDepth 100000 in
theorem mapG_look (h : MapG T W m n f c) {k : κ} (hk : T.fit k) : (Instr.lookup T.M (.map (some m)) (T.key k) false).run Try.prog W = .ok (T.val ((f k).getD T.zero)) W := by
  obtain ⟨D, hD, hf, _⟩ := h
  obtain ⟨v, ps, hrun, hv⟩ := hD.lookup T.keyed T.und (T.zeroV _) (T.read_mk T.zero) (T.key_is k hk)
  obtain ⟨o, rfl⟩ := T.read_inv _ _ hv
  rw [T.read_mk, hf k hk] at hv
  injection hv with hv
  injection hv with hv
  rw [← T.enc_inj _ _ hv]
  exact hrun

set_option maxRecDepth 100000 in
theorem mapG_look_ok (h : MapG T W m n f c) {k : κ} (hk : T.fit k) : (Instr.lookup T.M (.map (some m)) (T.key k) true).run Try.prog W = .ok (.tuple #[T.val ((f k).getD T.zero), .bool (f k).isSome]) W := by
  obtain ⟨D, hD, hf, hh, _⟩ := h
  obtain ⟨v, ps, hrun, hv⟩ := hD.look_ok T.keyed T.und (T.zeroV _) (T.read_mk T.zero) (T.key_is k hk)
  obtain ⟨o, rfl⟩ := T.read_inv _ _ hv
  rw [T.read_mk, hf k hk] at hv
  injection hv with hv
  injection hv with hv
  rw [← T.enc_inj _ _ hv, ← hh k hk]
  exact hrun

set_option maxRecDepth 100000 in
theorem mapG_put [DecidableEq κ] (h : MapG T W m n f c) {k : κ} (hk : T.fit k) (hn : n < maxLen) (e : ε) :
    ∃ w', (Instr.mapUpdate T.M (.map (some m)) (T.key k) (T.val e)).run Try.prog W = .ok () w' ∧ MapG T w' m (n + 1) (fun y => if y = k then some e else f y) (if (f k).isSome then c else c + 1) ∧ W.grownBy w' (some m) := by
  obtain ⟨D, hD, hf, hh, hc⟩ := h
  obtain ⟨w', hrun, hD', hg⟩ := hD.update T.keyed T.und hn (T.key_is k hk) (T.read_mk e)
  have hlit := T.keyed.key (T.key_is k hk)
  refine ⟨w', hrun, ⟨_, hD', fun y hy => ?_, fun y hy => ?_, ?_⟩, hg⟩
  · by_cases e1 : y = k
    · subst e1
      simp only [if_true]
      exact atKey_put_same hD.isMap hlit _ _
    · simp only [if_neg e1]
      rw [atKey_put_other (fun h => e1 (T.lit_inj _ _ hy hk h))]
      exact hf y hy
  · by_cases e1 : y = k
    · subst e1
      simp only [if_true]
      exact has_put_same hD.isMap hlit _
    · simp only [if_neg e1]
      rw [has_put_other (fun h => e1 (T.lit_inj _ _ hy hk h))]
      exact hh y hy
  · rw [size_put (hD.tidy T.keyed), hh k hk, hc]

set_option maxRecDepth 100000 in
theorem mapG_del [DecidableEq κ] (h : MapG T W m n f c) {k : κ} (hk : T.fit k) (ty : TypeId) :
    ∃ w' c', (Builtin.delete_ #[T.M, T.K] ty #[.map (some m), T.key k]).run Try.prog W = .ok (.tuple #[]) w' ∧ MapG T w' m n (fun y => if y = k then none else f y) c' ∧ c' + (if (f k).isSome then 1 else 0) = c ∧ W.grownBy w' (some m) ∧ w'.heap.size = W.heap.size := by
  obtain ⟨D, hD, hf, hh, hc⟩ := h
  obtain ⟨w', hrun, hD', hg⟩ := hD.drop T.keyed T.und (T.key_is k hk) ty
  refine ⟨w', _, hrun, ⟨_, hD', fun y hy => ?_, fun y hy => ?_, rfl⟩, ?_, hg.grown, ?_⟩
  · by_cases e1 : y = k
    · subst e1
      simp only [if_true]
      exact atKey_del_same _
    · simp only [if_neg e1]
      rw [atKey_del_other (fun h => e1 (T.lit_inj _ _ hy hk h))]
      exact hf y hy
  · by_cases e1 : y = k
    · subst e1
      simp only [if_true]
      exact has_del_same
    · simp only [if_neg e1]
      rw [has_del_other (fun h => e1 (T.lit_inj _ _ hy hk h))]
      exact hh y hy
  · rw [← hh k hk, size_del (hD.tidy T.keyed), hc]
  · obtain ⟨es, clock, es', clock', h1, rfl⟩ := hg
    simp [ChangeMaps.setBlock]

set_option maxRecDepth 100000 in
theorem mapG_len (h : MapG T W m n f c) (ty : TypeId) : (Builtin.len_ #[T.M] ty #[.map (some m)]).run Try.prog W = .ok (.int .i64 c) W := by
  obtain ⟨D, hD, _, _, rfl⟩ := h
  exact hD.len T.und ty
end

/-! ## Ranged over -/

/-- A range over the map, of which the keys 'seen' have come. -/
def RangeG {κ ε : Type} (T : MKind κ ε) (W : World) (m r n : Nat) (f : κ → Option ε) (c : Nat) (seen : List κ) (cnt : Nat) : Prop :=
  ∃ (D : DataW Unit) (left : Lit → Bool), W.ranges Try.prog T.K T.read m r n D left cnt ∧ (∀ k, T.fit k → D.atKey (T.lit k) (T.enc T.zero) = T.enc ((f k).getD T.zero)) ∧ (∀ k, T.fit k → Maps.has D (T.lit k) = (f k).isSome) ∧ Maps.size D = c ∧
    (∀ k, T.fit k → (left (T.lit k) = true ↔ (f k).isSome = true ∧ k ∉ seen)) ∧ seen.Nodup ∧ (∀ k ∈ seen, T.fit k ∧ (f k).isSome = true) ∧ seen.length + cnt ≤ c

section
variable {κ ε : Type} {T : MKind κ ε} {W : World} {m r n : Nat} {f : κ → Option ε} {c : Nat} {seen : List κ} {cnt : Nat}

theorem RangeG.left_eq (h : RangeG T W m r n f c seen cnt) : W.rangeLeft m r = cnt := by
  obtain ⟨D, left, h1, _⟩ := h
  exact h1.left_eq
theorem RangeG.map (h : RangeG T W m r n f c seen cnt) : MapG T W m n f c := by
  obtain ⟨D, left, h1, h2, h3, h4, _⟩ := h
  exact ⟨D, h1.owns, h2, h3, h4⟩
theorem RangeG.lt (h : RangeG T W m r n f c seen cnt) : r < W.heap.size := by
  obtain ⟨D, left, h1, _⟩ := h
  exact h1.lt
theorem RangeG.nodup (h : RangeG T W m r n f c seen cnt) : seen.Nodup ∧ (∀ k ∈ seen, T.fit k ∧ (f k).isSome = true) ∧ seen.length + cnt ≤ c := by
  obtain ⟨D, left, h1, _, _, _, _, h2, h3, h4⟩ := h
  exact ⟨h2, h3, h4⟩
theorem RangeG.iter (h : RangeG T W m r n f c seen cnt) : ∃ since sn c0, W.heap[r]? = some (.mapIter (some m) since sn c0) := by
  obtain ⟨D, left, ⟨es, clock, since, sn, c0, _, _, _, _, h5, _⟩, _⟩ := h
  exact ⟨since, sn, c0, h5⟩
theorem RangeG.on {W' : World} (h : RangeG T W m r n f c seen cnt) (hm : W'.heap[m]? = W.heap[m]?) (hr : W'.heap[r]? = W.heap[r]?) : RangeG T W' m r n f c seen cnt := by
  obtain ⟨D, left, ⟨es, clock, since, sn, c0, h1, h2, h3, h4, h5, h6⟩, h7⟩ := h
  exact ⟨D, left, ⟨es, clock, since, sn, c0, hm.trans h1, h2, h3, h4, hr.trans h5, h6⟩, h7⟩
end

section
variable {κ ε : Type} {T : MKind κ ε} (w : World) {ops : Array Oper} {rest : List Oper} {o : Oper} {a : Act} {Q : Exit → Act → World → Prop}

set_option maxRecDepth 100000 in
theorem wp_range_G (hg : o.guard = none) (mo : Operand) (hop : o.op = Op.range T.M mo) (m n : Nat) (f : κ → Option ε) (c : Nat) (hm : a.eval mo = .map (some m)) (h : MapG T w m n f c)
    (hK : ∀ w', RangeG T w' m w.heap.size n f c [] c → w.grownBy w' none → w'.heap.size = w.heap.size + 1 → wpList Try.prog ops Q rest (a.put o.dst (.pointer (some ⟨w.heap.size, 0, none⟩))) w') :
    wpList Try.prog ops Q (o :: rest) a w := by
  obtain ⟨D, hD, hf, hh, hc⟩ := h
  refine wpList_range_own w hg mo _ hop _ _ T.keyed T.und T.read m n D hm hD fun w' h1 h2 h3 => hK w' ?_ h2 h3
  rw [hc] at h1
  exact ⟨D, _, h1, hf, hh, hc, fun k hk => by rw [hh k hk]; simp, List.nodup_nil, fun k hk => by simp at hk, by simp⟩

set_option maxRecDepth 100000 in
theorem wp_next_G (hg : o.guard = none) (it : Operand) (hop : o.op = Op.next it false) (m r n : Nat) (f : κ → Option ε) (c : Nat) (seen : List κ) (cnt : Nat) (hit : a.eval it = .pointer (some ⟨r, 0, none⟩)) (h : RangeG T w m r n f c seen cnt)
    (hDone : (∀ k, T.fit k → (f k).isSome = true → k ∈ seen) → wpList Try.prog ops Q rest (a.put o.dst (.tuple #[.bool false])) w)
    (hMore : ∀ (k : κ) (e : ε) (w' : World) (cnt' : Nat), T.fit k → k ∉ seen → f k = some e → RangeG T w' m r n f c (seen ++ [k]) cnt' → cnt' < cnt → w.grownBy w' (some r) → w'.heap.size = w.heap.size →
      (Instr.entry (.pointer (some ⟨r, 0, none⟩))).run Try.prog w' = .ok (.tuple #[T.key k, T.val e]) w' → wpList Try.prog ops Q rest (a.put o.dst (.tuple #[.bool true, T.key k, T.val e])) w') :
    wpList Try.prog ops Q (o :: rest) a w := by
  obtain ⟨D, left, h1, h2, h3, hc, h4, h5, h6, h7⟩ := h
  refine wpList_next_ranges w hg it hop _ T.keyed T.read T.key T.val T.key_inv T.read_inv m r n D left cnt hit h1 (fun _ hl => hDone fun k hk hs => ?_) fun x e kl y w' cnt' hkey hlk hR hat hr hlt hg' hsz hen => ?_
  · refine Classical.byContradiction fun hn => ?_
    have := (h4 k hk).2 ⟨hs, hn⟩
    rw [hl] at this
    cases this
  · obtain ⟨hx, rfl⟩ := T.key_fit _ _ hkey
    have hb : (f x).isSome = true ∧ x ∉ seen := (h4 x hx).1 hlk
    obtain ⟨e', he'⟩ := Option.isSome_iff_exists.1 hb.1
    have hee : e = e' := by
      rw [T.read_mk] at hR
      injection hR with hR
      have := hat (T.enc T.zero)
      rw [← hR, h2 x hx, he'] at this
      exact (T.enc_inj _ _ this).symm
    subst hee
    refine hMore x e w' cnt' hx hb.2 he' ⟨D, _, hr, h2, h3, hc, fun k hk => ?_, ?_, fun k hk => ?_, by rw [List.length_append, List.length_singleton]; omega⟩ hlt hg' hsz hen
    · show (left (T.lit k) && !(T.lit k).sameKey (T.lit x)) = true ↔ _
      rw [Bool.and_eq_true, h4 k hk]
      by_cases e1 : k = x
      · subst e1
        rw [WideAt.sameKey_self (T.keyed.key (T.key_is k hk))]
        simp
      · rw [sameKey_ne (fun h => e1 (T.lit_inj _ _ hk hx h))]
        simp [e1]
    · exact List.nodup_append.2 ⟨h5, by simp, fun a ha b hb' => by
        rw [List.mem_singleton] at hb'
        rintro rfl
        rw [hb'] at ha
        exact hb.2 ha⟩
    · rcases List.mem_append.1 hk with hk | hk
      · exact h6 k hk
      · rw [List.mem_singleton] at hk
        subst hk
        exact ⟨hx, hb.1⟩
end

end Go.Proofs.Ytjehjjpdicimhaa

/-
  The program's chain (stage 6): a value in memory of its own.
-/
namespace Go.Proofs.Ytjehjjpdicimhaa
open Go.RowKit

/-- A copy under way: the first ones have texts of their own. -/
structure CpIn (w : World) (u : Value) (d : List Fx) (i : Nat) (o : List Fx) (W : World) : Prop where
  len : o.length = i
  row : W.ownsRow w.heap.size 56 2 u d.length (cellsX (o ++ d.drop i))
  txt : ∀ x ∈ o, OwnT w.heap.size W x.sl x.txt
  apart : Apart o
  fld : o.map Fx.fld = (d.take i).map Fx.fld
  bel : Below w.heap.size w W

theorem set_mid {α : Type} {o d : List α} {i : Nat} (ho : o.length = i) (hi : i < d.length) (x : α) : (o ++ d.drop i).set i x = (o ++ [x]) ++ d.drop (i + 1) := by
  subst ho
  rw [List.drop_eq_getElem_cons hi, List.set_append_right _ _ (Nat.le_refl _), Nat.sub_self, List.set_cons_zero]
  simp

theorem get_mid {α : Type} {o d : List α} {i : Nat} (ho : o.length = i) (hi : i < d.length) : (o ++ d.drop i)[i]'(by simp [ho]; omega) = d[i] := by
  subst ho
  rw [List.getElem_append_right (Nat.le_refl _), List.getElem_drop]
  simp

theorem CpIn.start {w W : World} {u : Value} {d : List Fx} (h : W.ownsRow w.heap.size 56 2 u d.length (cellsX d)) (hb : Below w.heap.size w W) : CpIn w u d 0 [] W :=
  ⟨rfl, by simpa using h, fun x hx => by simp at hx, List.Pairwise.nil, by simp, hb⟩

theorem CpIn.cells {w W : World} {g c : Nat} {d o : List Fx} {i : Nat} (h : CpIn w (.slice (some ⟨g, 0, none⟩) d.length c) d i o W) (hi : i < d.length) : ∀ W', Below W.heap.size W W' →
    W'.cell? ⟨g, i * 2 + 1, none⟩ = some (d[i]).sl ∧ W'.frozen? ⟨g, i * 2 + 1, none⟩ = false := fun W' hb => by
  have hr := own_on h.row hb
  have hl : (o ++ d.drop i).length = d.length := by rw [List.length_append, List.length_drop, h.len]; omega
  have h1 := (cellsX_get (o ++ d.drop i) i (by omega)).2
  rw [get_mid h.len hi] at h1
  exact ⟨by rw [hr.cellAt _ (by omega)]; exact h1, hr.frozenAt _⟩

theorem CpIn.next {w W W5 : World} {g c : Nat} {d o : List Fx} {i : Nat} (h : CpIn w (.slice (some ⟨g, 0, none⟩) d.length c) d i o W) (hi : i < d.length) {p5 : Option Addr} {c5 : Nat} (hb : Below W.heap.size W W5) (ht : OwnT W.heap.size W5 (.slice p5 (d[i]).txt.length c5) (d[i]).txt) :
    CpIn w (.slice (some ⟨g, 0, none⟩) d.length c) d (i + 1) (o ++ [⟨(d[i]).name, p5, c5, (d[i]).txt⟩]) (W5.setCell ⟨g, i * 2 + 1, none⟩ (.slice p5 (d[i]).txt.length c5)) := by
  have hr5 := own_on h.row hb
  have hNg := (World.ownsRow.lt h.row g rfl).1
  have hNW : w.heap.size ≤ W.heap.size := h.bel.size
  have hl : (o ++ d.drop i).length = d.length := by rw [List.length_append, List.length_drop, h.len]; omega
  have hset := set_mid h.len hi (⟨(d[i]).name, p5, c5, (d[i]).txt⟩ : Fx)
  have hgr : W5.grownBy (W5.setCell ⟨g, i * 2 + 1, none⟩ (.slice p5 (d[i]).txt.length c5)) (Value.slice (some ⟨g, 0, none⟩) d.length c).ownBlock := grown_set W5 g _ _
  refine ⟨by rw [List.length_append, h.len]; rfl, ?_, fun x hx => ?_, ?_, ?_, ?_⟩
  · have hst := (hr5.stored (i * 2 + 1) (.slice p5 (d[i]).txt.length c5)).1
    rw [← hset, cellsX_set _ _ (by omega)]
    have e1 : (cellsX (o ++ d.drop i)).set (i * 2) (.string (⟨(d[i]).name, p5, c5, (d[i]).txt⟩ : Fx).name) = cellsX (o ++ d.drop i) := by
      apply List.ext_getElem?
      intro q
      rw [List.getElem?_set]
      split
      · rename_i hq
        subst hq
        rw [if_pos (by rw [cellsX_len]; omega)]
        have := (cellsX_get (o ++ d.drop i) i (by omega)).1
        rw [get_mid h.len hi] at this
        exact this.symm
      · rfl
    rw [e1]
    exact hst
  · rcases List.mem_append.1 hx with hx | hx
    · exact own_else (OwnT.on (h.txt x hx) hb) hr5 (by decide) hgr
    · rw [List.mem_singleton] at hx
      subst hx
      exact own_else (show W5.ownsRow w.heap.size 9 1 (.slice p5 (d[i]).txt.length c5) (d[i]).txt.length ((d[i]).txt.map Value.string) from own_weak ht hNW) hr5 (by decide) hgr
  · refine apart_snoc h.apart fun y hy => ?_
    rcases hk : y.sl.ownBlock with _ | k
    · exact Or.inl rfl
    · right
      have h1 := (World.ownsRow.lt (h.txt y hy) k hk).2
      intro e
      have h2 := (World.ownsRow.lt ht k (by rw [e]; rfl)).1
      omega
  · rw [List.map_append, h.fld, List.take_succ_eq_append_getElem hi, List.map_append]
    rfl
  · exact (bel_then h.bel hNW hb).setCell hNg _

theorem CpIn.done {w W : World} {u : Value} {d o : List Fx} {i : Nat} (h : CpIn w u d i o W) (hi : ¬ i < d.length) : OwnJ w.heap.size W u o ∧ o.map Fx.fld = d.map Fx.fld := by
  have hf := h.fld
  rw [List.take_of_length_le (by omega)] at hf
  have hol : o.length = d.length := by simpa using congrArg List.length hf
  have hr := h.row
  rw [List.drop_eq_nil_of_le (by omega), List.append_nil, ← hol] at hr
  exact ⟨⟨⟨hr, h.txt⟩, h.apart⟩, hf⟩

end Go.Proofs.Ytjehjjpdicimhaa

/-
  The program's set of writes in memory (stage 11): its map, its values; New, all, Len, copied.
-/
namespace Go.Proofs.Ytjehjjpdicimhaa
open Go.RowKit Go.Maps

/-- The map's bound may be what it holds. -/
theorem MapG.tight {κ ε : Type} {T : MKind κ ε} {W : World} {m n : Nat} {f : κ → Option ε} {c : Nat} (h : MapG T W m n f c) : MapG T W m c f c := by
  obtain ⟨D, ⟨es, clock, h1, h2, h3, h4⟩, h5, h6, h7⟩ := h
  refine ⟨D, ⟨es, clock, h1, h2, ?_, h4⟩, h5, h6, h7⟩
  rw [← h7, h4]
  simp [Maps.size, length_sorted]

/-- What stands at a key in the set's map: whether it is live, and where its value lies. -/
structure We where
  live : Bool
  p : Option Nat
  len : Nat
  cap : Nat

def We.sl (e : We) : Value := .slice (e.p.map fun b => ⟨b, 0, none⟩) e.len e.cap
def We.val (e : We) : Value := .agg #[.bool e.live, e.sl]
def ptrI (p : Option Nat) : Int := match p with | none => -1 | some b => (b : Int)
def We.enc (e : We) : DataW Unit := .agg [.lit (.bool e.live), .lit (.int .i64 (ptrI e.p)), .lit (.int .i64 (e.len : Int)), .lit (.int .i64 (e.cap : Int))]

theorem ptrI_inj {p q : Option Nat} (h : ptrI p = ptrI q) : p = q := by
  cases p <;> cases q <;> simp only [ptrI] at h
  · rfl
  · omega
  · omega
  · exact congrArg some (by omega)
theorem We.val_inj {a b : We} (h : a.val = b.val) : a = b := by
  obtain ⟨l, p, n, c⟩ := a
  obtain ⟨l', p', n', c'⟩ := b
  simp only [We.val, We.sl, Value.agg.injEq, Array.mk.injEq, List.cons.injEq, Value.bool.injEq, Value.slice.injEq] at h
  obtain ⟨rfl, ⟨h2, rfl, rfl⟩, _⟩ := h
  have : p = p' := by cases p <;> cases p' <;> simp_all
  rw [this]
theorem We.enc_inj {a b : We} (h : a.enc = b.enc) : a = b := by
  obtain ⟨l, p, n, c⟩ := a
  obtain ⟨l', p', n', c'⟩ := b
  simp only [We.enc, DataW.agg.injEq, List.cons.injEq, DataW.lit.injEq, Lit.bool.injEq, Lit.int.injEq, true_and] at h
  obtain ⟨rfl, h2, h3, h4, _⟩ := h
  rw [ptrI_inj h2, show n = n' by omega, show c = c' by omega]

open Classical in
/-- A map from keys to what was written. -/
noncomputable def MW : MKind Ky We where
  K := 27
  E := 63
  M := 57
  key := valK
  lit := keyL
  fit := FitK
  val := We.val
  enc := We.enc
  read v := if h : ∃ e, v = We.val e then some (We.enc h.choose, []) else none
  zero := ⟨false, none, 0, 0⟩
  und := Try.underlying57
  keyed := Try.keyedKey
  key_is _ h := keyL_is h
  key_fit _ _ h := keyL_fit h
  key_inv v l h := keyL_inv v l h
  lit_inj _ _ hx hy h := keyL_inj hx hy h
  read_mk e := by
    have h : ∃ e', We.val e = We.val e' := ⟨e, rfl⟩
    rw [dif_pos h, ← We.val_inj h.choose_spec]
  read_inv v y h := by
    split at h
    · next h' => exact h'
    · cases h
  enc_inj _ _ h := We.enc_inj h
  zeroV w := by kernel_rfl

/-- What the map has at each key. -/
def fS (L : List RowW) (F : Ky → We) (k : Ky) : Option We := (getW L k).map fun _ => F k

/-- What lies at a key: whether it is live, and its value, in memory of its own. -/
def RowS (n0 : Nat) (W : World) (e : We) (o : List Fx) (r : Wr) : Prop := e.live = r.isSome ∧ OwnJ n0 W e.sl o ∧ o.map Fx.fld = valW (some r)

/-- A set of the program in block g; its blocks are B's. -/
structure PrgU (n0 : Nat) (W : World) (B : Nat → Prop) (g m : Nat) (F : Ky → We) (O : Ky → List Fx) (L : List RowW) : Prop where
  obj : W.heap[g]? = some (.cells #[.map (some m)] 59 (0, 0))
  map : MapG MW W m L.length (fS L F) L.length
  row : ∀ k r, getW L k = some r → RowS n0 W (F k) (O k) r
  gle : n0 ≤ g
  mle : n0 ≤ m
  ok : OkW L
  blk : ∀ j, B j ↔ j = g ∨ j = m ∨ ∃ k, (getW L k).isSome = true ∧ BlkX (F k).sl (O k) j

def PrgW (n0 : Nat) (W : World) (B : Nat → Prop) (g : Nat) (L : List RowW) : Prop := ∃ m F O, PrgU n0 W B g m F O L

section
variable {n0 : Nat} {W : World} {B : Nat → Prop} {g m : Nat} {F : Ky → We} {O : Ky → List Fx} {L : List RowW}

theorem PrgU.cell (h : PrgU n0 W B g m F O L) : W.cell? ⟨g, 0, none⟩ = some (.map (some m)) := by rw [Lib.cell_of_heap h.obj]; rfl
theorem PrgU.bounds (h : PrgU n0 W B g m F O L) (k : Nat) (hk : B k) : n0 ≤ k ∧ k < W.heap.size := by
  rcases (h.blk k).1 hk with rfl | rfl | ⟨j, hj, hb⟩
  · exact ⟨h.gle, (Array.getElem?_eq_some_iff.1 h.obj).1⟩
  · exact ⟨h.mle, h.map.lt⟩
  · obtain ⟨r, hr⟩ := Option.isSome_iff_exists.1 hj
    exact ownJ_blk (h.row j r hr).2.1 k hb
theorem PrgU.fr {W' : World} {P : Nat → Prop} (h : PrgU n0 W B g m F O L) (f : Fr P W W') (hP : ∀ k, B k → ¬ P k) : PrgU n0 W' B g m F O L :=
  ⟨(f.block g (Array.getElem?_eq_some_iff.1 h.obj).1 (hP g ((h.blk g).2 (Or.inl rfl)))).trans h.obj, h.map.on (f.block m h.map.lt (hP m ((h.blk m).2 (Or.inr (Or.inl rfl))))),
    fun k r hr => ⟨(h.row k r hr).1, ownJ_fr (h.row k r hr).2.1 f fun j hj => hP j ((h.blk j).2 (Or.inr (Or.inr ⟨k, by rw [hr]; rfl, hj⟩))), (h.row k r hr).2.2⟩, h.gle, h.mle, h.ok, h.blk⟩
theorem PrgU.on {W' : World} (h : PrgU n0 W B g m F O L) (hb : Below W.heap.size W W') : PrgU n0 W' B g m F O L :=
  h.fr (P := fun _ => False) (Fr.of_below hb) fun _ _ k => k
theorem PrgU.off (h : PrgU n0 W B g m F O L) {k : Ky} {r : Wr} (hr : getW L k = some r) {j : Nat} (hj : BlkX (F k).sl (O k) j) : j ≠ m := by
  have hJ := (h.row k r hr).2.1
  rcases hj with hj | ⟨f, hf, hj⟩
  · obtain ⟨cs, hc⟩ := own_type hJ.1.1 hj
    exact h.map.off hc
  · obtain ⟨cs, hc⟩ := own_type (hJ.1.2 f hf) hj
    exact h.map.off hc
end

theorem valK_mk (k : Ky) : MW.key k = .agg #[.string k.1, .string k.2] := rfl
theorem allW_is (g m : Nat) (W : World) (c0 : W.cell? ⟨g, 0, none⟩ = some (.map (some m))) : Calls Try.prog 21 #[.pointer (some ⟨g, 0, none⟩)] W fun e w' => e = .returned (.map (some m)) ∧ w' = W := by
  go_enter Try.func21, Try.ntmps21
  go_wp2_with fail
  go_ret
  exact ⟨rfl, rfl⟩
theorem allW_nil (W : World) : Calls Try.prog 21 #[.pointer none] W fun e w' => e = .returned (.map none) ∧ w' = W := by
  go_enter Try.func21, Try.ntmps21
  go_wp2_with fail
  go_ret
  exact ⟨rfl, rfl⟩

set_option maxHeartbeats 4000000 in
set_option maxRecDepth 100000 in
theorem wnew_any (n0 : Nat) (W : World) (hn : n0 ≤ W.heap.size) : Calls Try.prog 7 #[] W fun e w' => ∃ B g, e = .returned (.pointer (some ⟨g, 0, none⟩)) ∧ PrgW n0 w' B g [] ∧ Below W.heap.size W w' ∧ ∀ k, B k → W.heap.size ≤ k := by
  have hmm := @run_makeMap Try.prog
  have hb : Below W.heap.size W ((W.alloc (.map #[] 0)).alloc (.cells #[.map (some W.heap.size)] 59)) := ((Below.refl _ _).alloc (Nat.le_refl _) _).alloc (by simp) _
  have HM : Hid (PrgW n0 ((W.alloc (.map #[] 0)).alloc (.cells #[.map (some W.heap.size)] 59)) (fun k => k = W.heap.size + 1 ∨ k = W.heap.size) (W.heap.size + 1) []) := by
    have h1 := heap_alloc_new (W.alloc (.map #[] 0)) (.cells #[.map (some W.heap.size)] 59)
    rw [World.size_alloc] at h1
    refine ⟨W.heap.size, fun _ => ⟨false, none, 0, 0⟩, fun _ => [], h1, ?_, fun k r hr => (by cases hr), by omega, hn, okW_nil, fun k => ?_⟩
    · exact ((mapG_made MW W).on (Below.heap_alloc _ _ _ (by simp))).congr fun k _ => rfl
    · simp [getW]
  have HB := hid hb
  clear hb
  go_enter Try.func7, Try.ntmps7
  go_wp2_with fail
  go_ret
  exact ⟨_, _, rfl, HM.out, HB.out, fun k hk => by rcases hk with rfl | rfl <;> omega⟩

set_option maxHeartbeats 1000000 in
theorem wlen_any {n0 : Nat} {W : World} {B : Nat → Prop} {g : Nat} {L : List RowW} (h : PrgW n0 W B g L) : Calls Try.prog 14 #[.pointer (some ⟨g, 0, none⟩)] W fun e w' => e = .returned (.int .i64 (L.length : Nat)) ∧ Below W.heap.size W w' := by
  obtain ⟨m, F, O, h⟩ := h
  have HA := hid (allW_is g m W h.cell)
  have hl : ∀ ty, (Builtin.len_ #[57] ty #[.map (some m)]).run Try.prog W = .ok (.int .i64 (L.length : Nat)) W := fun ty => mapG_len h.map ty
  clear h
  go_enter Try.func14, Try.ntmps14
  go_wp2_with fail
  refine HA.out.mono ?_
  rintro e w1 ⟨rfl, rfl⟩
  go_wp2_with fail
  go_ret
  exact ⟨rfl, Below.refl _ _⟩
set_option maxHeartbeats 1000000 in
theorem wlen_nil (W : World) : Calls Try.prog 14 #[.pointer none] W fun e w' => e = .returned (.int .i64 0) ∧ Below W.heap.size W w' := by
  have HA := hid (allW_nil W)
  have hl : ∀ ty, (Builtin.len_ #[57] ty #[.map none]).run Try.prog W = .ok (.int .i64 0) W := fun ty => Maps.len_nil Try.underlying57 ty
  go_enter Try.func14, Try.ntmps14
  go_wp2_with fail
  refine HA.out.mono ?_
  rintro e w1 ⟨rfl, rfl⟩
  go_wp2_with fail
  go_ret
  exact ⟨rfl, Below.refl _ _⟩

set_option maxHeartbeats 4000000 in
set_option maxRecDepth 100000 in
theorem wcopied_any (v : Value) (d : List Fx) (w : World) (hv : IsXs w v d) (hf : FitX d) (hc : CopyX d) :
    Calls Try.prog 20 #[v] w fun e w' => ∃ u o, e = .returned u ∧ OwnJ w.heap.size w' u o ∧ o.map Fx.fld = d.map Fx.fld ∧ Below w.heap.size w w' := by
  have HC := hid (cloneX_any v d w hv hc.1)
  have HT := hid hv.at_all
  have H16 := hid hc.2
  have hl := hf.1
  unfold maxLen at hl
  clear hv hf hc
  go_enter Try.func20, Try.ntmps20
  go_wp2_with fail
  refine HC.out.mono ?_
  rintro e w1 ⟨u, rfl, ho, hb⟩
  have H0 := hid (CpIn.start ho hb)
  obtain ⟨p, cap, rfl, hp⟩ : ∃ p cap, u = .slice p d.length cap ∧ (0 < d.length → ∃ g, p = some ⟨g, 0, none⟩) := by
    rcases ho.2 with ⟨h1, h2⟩ | ⟨g, cap, _, h1, _⟩
    · exact ⟨none, 0, by rw [h2]; exact h1, fun h => by omega⟩
    · exact ⟨_, _, h1, fun _ => ⟨g, rfl⟩⟩
  have HP := hid hp
  clear ho hb HC hp
  go_wp2_with fail
  go_loopg [9] d.length (fun gg vi wr => ∃ (i : Nat) (o : List Fx), vi = .int .i64 i ∧ i ≤ d.length ∧ d.length - i ≤ gg ∧ Hid (CpIn w (.slice p d.length cap) d i o wr))
  case atStart => exact ⟨0, [], rfl, by omega, by omega, H0.out⟩
  case round =>
    clear H0
    obtain ⟨i, o, rfl, hi, hgk, HI⟩ := hrel
    by_cases hlt : i < d.length
    · have hltz : (i : Int) < (d.length : Int) := by omega
      have hiz : (0 : Int) ≤ i := by omega
      obtain ⟨g, rfl⟩ := HP.out (by omega)
      obtain ⟨c0, f0⟩ := HI.out.cells hlt wr (Below.refl _ _)
      have HCL := hid (HI.out.cells hlt)
      have HCT := hid (cloneT_any (d[i]).p (d[i]).cap (d[i]).txt wr ((HT.out _ (List.getElem_mem hlt)).kept HI.out.bel) (H16.out _ (List.getElem_mem hlt)))
      have HNX : Hid (∀ W5 p5 c5, Below wr.heap.size wr W5 → OwnT wr.heap.size W5 (.slice p5 (d[i]).txt.length c5) (d[i]).txt → CpIn w (.slice (some ⟨g, 0, none⟩) d.length cap) d (i + 1) (o ++ [⟨(d[i]).name, p5, c5, (d[i]).txt⟩]) (W5.setCell ⟨g, i * 2 + 1, none⟩ (.slice p5 (d[i]).txt.length c5))) := fun W5 p5 c5 h1 h2 => HI.out.next hlt h1 h2
      clear HI
      generalize d[i] = x at *
      obtain ⟨nm, p5, c5, ts⟩ := x
      simp only [Fx.sl] at c0 HCL HCT HNX
      go_wp2_with fail
      refine HCT.out.mono ?_
      rintro e w5 ⟨sv, rfl, hot5, hb5⟩
      obtain ⟨p6, c6, rfl⟩ := own_slice hot5
      obtain ⟨q0, q1⟩ := HCL.out w5 hb5
      have HN := hid (HNX.out w5 p6 c6 hb5 hot5)
      clear hot5 hb5 c0 f0
      go_wp2_with fail
      go_roundg (d.length - (i + 1))
      case measure => omega
      exact ⟨i + 1, _, by go_num, by omega, by omega, HN.out⟩
    · have hltz : ¬ (i : Int) < (d.length : Int) := by omega
      have HD := hid (HI.out.done hlt)
      have HB := hid HI.out.bel
      clear HI
      go_wp2_with fail
      go_ret
      exact ⟨_, rfl, o, HD.out.1, HD.out.2, HB.out⟩

end Go.Proofs.Ytjehjjpdicimhaa

/-
  The program's set of writes (stage 11): Put, Delete, Forget, Get.
-/
namespace Go.Proofs.Ytjehjjpdicimhaa
open Go.RowKit Go.Maps

/-! ## How many there are -/

theorem delW_all {k : Ky} : ∀ {L : List RowW}, (∀ y ∈ L, y.1 ≠ k) → delW L k = L := fun {L} h => List.filter_eq_self.2 fun y hy => by simp [h y hy]
theorem delW_count {k : Ky} : ∀ {L : List RowW}, (L.Pairwise fun x y => ltKy x.1 y.1 = true) → (delW L k).length + (if (getW L k).isSome = true then 1 else 0) = L.length
  | [], _ => rfl
  | y :: r, h => by
    obtain ⟨h1, h2⟩ := List.pairwise_cons.1 h
    by_cases e : y.1 = k
    · have hne : ∀ z ∈ r, z.1 ≠ k := fun z hz ez => by
        have := h1 z hz
        rw [e, ez, totK.irr] at this
        cases this
      have hd : delW (y :: r) k = r := by
        show List.filter _ (y :: r) = r
        rw [List.filter_cons_of_neg (by simp [e])]
        exact delW_all hne
      rw [hd]
      simp [getW, e]
    · have ih := delW_count (k := k) h2
      have hd : delW (y :: r) k = y :: delW r k := by
        show List.filter _ (y :: r) = _
        rw [List.filter_cons_of_pos (by simp [e])]
        rfl
      have hg : getW (y :: r) k = getW r k := by rw [getW, if_neg e]
      rw [hd, hg, List.length_cons, List.length_cons]
      omega
theorem layW_count {L : List RowW} (h : OkW L) (k : Ky) (e : Wr) : (layW L k e).length = if (getW L k).isSome = true then L.length else L.length + 1 := by
  have := delW_count (k := k) h.rise
  unfold layW
  rw [insP_len]
  split at this
  · next hs => rw [if_pos hs]; omega
  · next hs => rw [if_neg hs]; omega

theorem fS_some {L : List RowW} {F : Ky → We} {k : Ky} : (fS L F k).isSome = (getW L k).isSome := by
  unfold fS
  cases getW L k <;> rfl

/-! ## One more written -/

/-- What a call leaves of a set of the program. -/
def STurn (n0 : Nat) (W : World) (B : Nat → Prop) (g : Nat) (L : List RowW) (w' : World) : Prop := ∃ B', PrgW n0 w' B' g L ∧ Fr B W w' ∧ ∀ k, B' k → B k ∨ W.heap.size ≤ k

section
variable {n0 : Nat} {W : World} {B : Nat → Prop} {g m : Nat} {F : Ky → We} {O : Ky → List Fx} {L : List RowW}

theorem STurn.below {w' : World} (h : PrgU n0 W B g m F O L) (hb : Below W.heap.size W w') : STurn n0 W B g L w' := ⟨B, ⟨m, F, O, h.on hb⟩, Fr.of_below hb, fun _ hk => Or.inl hk⟩

/-- The set's blocks. -/
def BlkS (g m : Nat) (F : Ky → We) (O : Ky → List Fx) (L : List RowW) (j : Nat) : Prop := j = g ∨ j = m ∨ ∃ k, (getW L k).isSome = true ∧ BlkX (F k).sl (O k) j

theorem PrgU.old (h : PrgU n0 W B g m F O L) {W3 w4 : World} (hb : Below W.heap.size W W3) (hg : W3.grownBy w4 (some m)) {k : Ky} {r : Wr} (hr : getW L k = some r) : RowS n0 w4 (F k) (O k) r := by
  have h3 := (h.on hb).row k r hr
  exact ⟨h3.1, ownJ_fr h3.2.1 (Fr.of_grown (P := fun j => j = m) hg fun j hj => by injection hj with hj; exact hj.symm) fun j hj e => (h.on hb).off hr hj e, h3.2.2⟩

theorem PrgU.turned (h : PrgU n0 W B g m F O L) {W3 w4 : World} (hb : Below W.heap.size W W3) (hg : W3.grownBy w4 (some m)) : w4.heap[g]? = some (.cells #[.map (some m)] 59 (0, 0)) ∧ Fr B W w4 := by
  have h3 := h.on hb
  refine ⟨(hg.block g (Array.getElem?_eq_some_iff.1 h3.obj).1 (fun e => h3.map.off h3.obj (by injection e))).trans h3.obj, ?_⟩
  exact Fr.then (Fr.of_below hb) (Fr.of_grown (P := fun j => j = m) hg fun j hj => by injection hj with hj; exact hj.symm) fun j hj => Or.inl ((h.blk j).2 (Or.inr (Or.inl hj)))

theorem PrgU.lay (h : PrgU n0 W B g m F O L) (hn : n0 ≤ W.heap.size) {W3 w4 : World} (hb : Below W.heap.size W W3) (k : Ky) (hk : keyB k.1 k.2 = true) (e : We) (o : List Fx) (r : Wr) (hm : ∀ v, r = some v → mayB v = true) (hrow : RowS W.heap.size W3 e o r)
    (hM : MapG MW w4 m (L.length + 1) (fun y => if y = k then some e else fS L F y) (if (fS L F k).isSome then L.length else L.length + 1)) (hg : W3.grownBy w4 (some m)) : STurn n0 W B g (layW L k r) w4 := by
  obtain ⟨hobj, hfr⟩ := h.turned hb hg
  have hml : m < W.heap.size := h.map.lt
  have hnew : RowS n0 w4 e o r := by
    refine ⟨hrow.1, own_weakJ (ownJ_fr hrow.2.1 (Fr.of_grown (P := fun j => j = m) hg fun j hj => by injection hj with hj; exact hj.symm) fun j hj ej => ?_) hn, hrow.2.2⟩
    have := (ownJ_blk hrow.2.1 j hj).1
    omega
  have hcnt := layW_count h.ok k r
  rw [fS_some, ← hcnt] at hM
  refine ⟨BlkS g m (fun y => if y = k then e else F y) (fun y => if y = k then o else O y) (layW L k r), ⟨m, fun y => if y = k then e else F y, fun y => if y = k then o else O y, hobj, hM.tight.congr fun y _ => ?_, fun y r' hr' => ?_, h.gle, h.mle, okW_lay h.ok k r hk hm, fun j => Iff.rfl⟩, hfr, fun j hj => ?_⟩
  · unfold fS
    rw [getW_lay]
    by_cases ey : y = k
    · rw [if_pos ey, if_pos ey]
      simp [ey]
    · rw [if_neg ey, if_neg ey]
      simp only [if_neg ey]
  · rw [getW_lay] at hr'
    by_cases ey : y = k
    · rw [if_pos ey] at hr'
      injection hr' with hr'
      subst hr'
      simp only [if_pos ey]
      exact hnew
    · rw [if_neg ey] at hr'
      simp only [if_neg ey]
      exact h.old hb hg hr'
  · rcases hj with rfl | rfl | ⟨y, hy, hj⟩
    · exact Or.inl ((h.blk _).2 (Or.inl rfl))
    · exact Or.inl ((h.blk _).2 (Or.inr (Or.inl rfl)))
    · rw [getW_lay] at hy
      by_cases ey : y = k
      · simp only [if_pos ey] at hj
        exact Or.inr (ownJ_blk hrow.2.1 j hj).1
      · rw [if_neg ey] at hy
        simp only [if_neg ey] at hj
        exact Or.inl ((h.blk j).2 (Or.inr (Or.inr ⟨y, hy, hj⟩)))

theorem PrgU.gone (h : PrgU n0 W B g m F O L) {W3 w4 : World} (hb : Below W.heap.size W W3) (k : Ky) {c' : Nat}
    (hM : MapG MW w4 m L.length (fun y => if y = k then none else fS L F y) c') (hc : c' + (if (fS L F k).isSome then 1 else 0) = L.length) (hg : W3.grownBy w4 (some m)) : STurn n0 W B g (delW L k) w4 := by
  obtain ⟨hobj, hfr⟩ := h.turned hb hg
  have hcnt := delW_count (k := k) h.ok.rise
  rw [fS_some] at hc
  have hcc : c' = (delW L k).length := by omega
  rw [hcc] at hM
  refine ⟨BlkS g m F O (delW L k), ⟨m, F, O, hobj, hM.tight.congr fun y _ => ?_, fun y r' hr' => ?_, h.gle, h.mle, okW_del h.ok k, fun j => Iff.rfl⟩, hfr, fun j hj => ?_⟩
  · unfold fS
    rw [getW_del]
    by_cases ey : y = k
    · rw [if_pos ey, if_pos ey]; rfl
    · rw [if_neg ey, if_neg ey]
  · rw [getW_del] at hr'
    by_cases ey : y = k
    · rw [if_pos ey] at hr'; cases hr'
    · rw [if_neg ey] at hr'
      exact h.old hb hg hr'
  · rcases hj with rfl | rfl | ⟨y, hy, hj⟩
    · exact Or.inl ((h.blk _).2 (Or.inl rfl))
    · exact Or.inl ((h.blk _).2 (Or.inr (Or.inl rfl)))
    · rw [getW_del] at hy
      by_cases ey : y = k
      · rw [if_pos ey] at hy; cases hy
      · rw [if_neg ey] at hy
        exact Or.inl ((h.blk j).2 (Or.inr (Or.inr ⟨y, hy, hj⟩)))
end

end Go.Proofs.Ytjehjjpdicimhaa

/-
  The program's set of writes (stage 11): the walks of Put and Delete.
-/
namespace Go.Proofs.Ytjehjjpdicimhaa
open Go.RowKit Go.Maps

theorem codeP_no (k : Ky) (v : List Fld) (h : keyB k.1 k.2 = false) (L : List RowW) : codePW k v = 2 ∧ putW L k v = L := by
  have h1 : codePW k v = 2 := by unfold codePW; rw [if_pos h]
  exact ⟨h1, by unfold putW; rw [h1]; rfl⟩
theorem codeP_bad (k : Ky) (v : List Fld) (h : keyB k.1 k.2 = true) (hv : mayB v = false) (L : List RowW) : codePW k v = 3 ∧ putW L k v = L := by
  have h1 : codePW k v = 3 := by unfold codePW; rw [if_neg (by rw [h]; simp), if_pos hv]
  exact ⟨h1, by unfold putW; rw [h1]; rfl⟩
theorem codeP_ok (k : Ky) (v : List Fld) (h : keyB k.1 k.2 = true) (hv : mayB v = true) (L : List RowW) : codePW k v = 0 ∧ putW L k v = layW L k (some v) := by
  have h1 : codePW k v = 0 := by unfold codePW; rw [if_neg (by rw [h]; simp), if_neg (by rw [hv]; simp)]
  exact ⟨h1, by unfold putW; rw [h1]; rfl⟩
theorem codeD_no (k : Ky) (h : keyB k.1 k.2 = false) (L : List RowW) : codeDW k = 2 ∧ dltW L k = L := by
  have h1 : codeDW k = 2 := by unfold codeDW; rw [if_pos h]
  exact ⟨h1, by unfold dltW; rw [h1]; rfl⟩
theorem codeD_ok (k : Ky) (h : keyB k.1 k.2 = true) (L : List RowW) : codeDW k = 0 ∧ dltW L k = layW L k none := by
  have h1 : codeDW k = 0 := by unfold codeDW; rw [if_neg (by rw [h]; simp)]
  exact ⟨h1, by unfold dltW; rw [h1]; rfl⟩

/-- What an own value's slice is, as the map has it. -/
theorem we_of {N : Nat} {w : World} {u : Value} {o : List Fx} (h : OwnJ N w u o) (l : Bool) : ∃ e : We, e.live = l ∧ e.sl = u := by
  rcases h.1.1.2 with ⟨h1, h2⟩ | ⟨g, cap, _, h1, _⟩
  · exact ⟨⟨l, none, 0, 0⟩, rfl, h1.symm⟩
  · exact ⟨⟨l, some g, o.length, cap⟩, rfl, h1.symm⟩

set_option maxHeartbeats 4000000 in
set_option maxRecDepth 100000 in
theorem wput_any {n0 : Nat} {W : World} {B : Nat → Prop} {g : Nat} {L : List RowW} (h : PrgW n0 W B g L) (hn : n0 ≤ W.heap.size) (hl : L.length < 1300000000000) (k : Ky) (hk : FitKy k) (v : Value) (o : List Fx) (val : List Fld) (hv : IsXs W v o) (hf : FitX o) (hval : o.map Fx.fld = val) :
    Calls Try.prog 8 #[.pointer (some ⟨g, 0, none⟩), .agg #[.string k.1, .string k.2], v] W fun e w' => e = .returned (.int .i64 (codePW k val)) ∧ STurn n0 W B g (putW L k val) w' := by
  obtain ⟨m, F, O, h⟩ := h
  obtain ⟨ka, kb⟩ := k
  obtain ⟨N, hN⟩ : ∃ N, W.heap.size = N := ⟨_, rfl⟩
  obtain ⟨V, hV⟩ : ∃ V, W.alloc (.cells #[.string ka, .string kb] 27) = V := ⟨_, rfl⟩
  have hbV : Below W.heap.size W V := by rw [← hV]; exact (Below.refl _ _).alloc (Nat.le_refl _) _
  have hbox : V.heap[N]? = some (.cells #[.string ka, .string kb] 27 (0, 0)) := by rw [← hV, ← hN]; exact heap_alloc_new W _
  have hsV : V.heap.size = N + 1 := by rw [← hV, ← hN]; simp
  have hgl : g < W.heap.size := (Array.getElem?_eq_some_iff.1 h.obj).1
  have KS : Hid (∀ w' : World, Below V.heap.size V w' → w'.cell? ⟨g, 0, none⟩ = some (.map (some m)) ∧ w'.cell? ⟨N, 0, none⟩ = some (.string ka) ∧ w'.cell? ⟨N, 1, none⟩ = some (.string kb)) := fun w' hb => by
    have h3 := (hb.block N (by omega)).trans hbox
    exact ⟨(h.on (bel_then hbV hbV.size hb)).cell, by rw [Lib.cell_of_heap h3]; rfl, by rw [Lib.cell_of_heap h3]; rfl⟩
  obtain ⟨q0, q1, q2⟩ := KS.out V (Below.refl _ _)
  have HK := hid (key_any ka kb V hk.1 hk.2)
  have HS := hid h
  have HV := hid hv
  have HF := hid hf
  have HVAL := hid hval
  have HBV := hid hbV
  have HN0 := hid hn
  have HL := hid hl
  have HFK := hid hk
  obtain ⟨p0, c0, hvs⟩ : ∃ p c, v = .slice p o.length c := by obtain ⟨p, c, h1, _⟩ := hv; exact ⟨p, c, h1⟩
  subst hvs
  clear h hv hf hval hbV hbox hn hl hk
  obtain ⟨bk, hbk⟩ : ∃ b, keyB ka kb = b := ⟨_, rfl⟩
  have HBK := hid hbk
  rw [hbk] at HK
  clear hbk
  go_enter Try.func8, Try.ntmps8
  go_wp2_with fail
  try rw [hN]
  try rw [hV]
  refine HK.out.mono ?_
  rintro e w1 ⟨rfl, hb1⟩
  obtain ⟨r0, r1, r2⟩ := KS.out w1 hb1
  have HB1 := hid hb1
  clear hb1 q0 q1 q2
  cases bk with
  | false =>
    go_wp2_with fail
    go_ret
    obtain ⟨e1, e2⟩ := codeP_no (ka, kb) val HBK.out L
    rw [e1, e2]
    exact ⟨rfl, STurn.below HS.out (bel_then HBV.out HBV.out.size HB1.out)⟩
  | true =>
    have HM := hid (may_any (.slice p0 o.length c0) o w1 ((HV.out.kept HBV.out).kept HB1.out) HF.out)
    obtain ⟨bm, hbm⟩ : ∃ b, mayB (o.map Fx.fld) = b := ⟨_, rfl⟩
    have HBM := hid hbm
    rw [hbm] at HM
    clear hbm
    go_wp2_with fail
    refine HM.out.mono ?_
    rintro e w2 ⟨rfl, hg2⟩
    have hb2 := bel_then HB1.out HB1.out.size hg2.below
    have HB2 := hid hb2
    have HB2D : Hid (Below V.heap.size V w2.drew) := hb2.drew
    have hs2 := hb2.size
    clear hg2 HM r0 r1 r2
    cases bm with
    | false =>
      go_wp2_with fail
      go_ret
      obtain ⟨e1, e2⟩ := codeP_bad (ka, kb) val HBK.out (by rw [← HVAL.out]; exact HBM.out) L
      rw [e1, e2]
      exact ⟨rfl, STurn.below HS.out (bel_then HBV.out HBV.out.size hb2)⟩
    | true =>
      have q2 := KS.out w2.drew HB2D.out
      have HC := hid (wcopied_any (.slice p0 o.length c0) o w2.drew ((HV.out.kept HBV.out).kept HB2D.out) HF.out (may_fit HBM.out).2)
      clear hb2
      go_wp2_with fail
      refine wp_region_held_drew (S := fun w' => w'.cell? ⟨g, 0, none⟩ = some (.map (some m)) ∧ w'.cell? ⟨N, 0, none⟩ = some (.string ka) ∧ w'.cell? ⟨N, 1, none⟩ = some (.string kb)) (by kernel_rfl) q2 (fun hHeld => ?_)
      refine take_val (i := 0) (.pointer (some ⟨g, 0, none⟩)) rfl (by kernel_rfl) (by kernel_rfl) (by kernel_rfl) (fun _ _ _ h => h) (by rfl) (fun w hSw => by go_simp) hHeld ?_
      simp only [Act.put, List.setIfInBounds_toArray, List.set_cons_zero, List.set_cons_succ]
      refine take_val (i := 1) (.pointer (some ⟨g, 0, none⟩)) rfl (by kernel_rfl) (by kernel_rfl) (by kernel_rfl) (fun _ _ _ h => h) (by rfl) (fun w hSw => by go_simp) hHeld ?_
      simp only [Act.put, List.setIfInBounds_toArray, List.set_cons_zero, List.set_cons_succ]
      refine take_val (i := 2) (.pointer (some ⟨g, 0, none⟩)) rfl (by kernel_rfl) (by kernel_rfl) (by kernel_rfl) (fun _ _ _ h => h) (by rfl) (fun w hSw => by go_simp) hHeld ?_
      simp only [Act.put, List.setIfInBounds_toArray, List.set_cons_zero, List.set_cons_succ]
      refine take_val (i := 3) (.map (some m)) rfl (by kernel_rfl) (by kernel_rfl) (by kernel_rfl) (fun _ _ _ h => h) (by rfl) (fun w hSw => by go_simp) hHeld ?_
      simp only [Act.put, List.setIfInBounds_toArray, List.set_cons_zero, List.set_cons_succ]
      refine take_val (i := 4) (.agg #[.string ka, .string kb]) rfl (by kernel_rfl) (by kernel_rfl) (by kernel_rfl) (fun _ _ _ h => h) (by rfl) (fun w hSw => by go_simp) hHeld ?_
      simp only [Act.put, List.setIfInBounds_toArray, List.set_cons_zero, List.set_cons_succ]
      refine take_val (i := 5) (.slice p0 o.length c0) rfl (by kernel_rfl) (by kernel_rfl) (by kernel_rfl) (fun _ _ _ h => h) (by rfl) (fun w hSw => by go_simp) hHeld ?_
      simp only [Act.put, List.setIfInBounds_toArray, List.set_cons_zero, List.set_cons_succ]
      refine wpAnyH_ready (rs := [6]) (by kernel_rfl) (by simp) ?_
      refine AllReadyH.cons (at_drop0 rfl) (fun K hK => ?_) AllReadyH.nil
      rw [if_pos (by rfl)]
      go_simp
      refine HC.out.mono ?_
      rintro e w3 ⟨u, o3, rfl, hJ, ho3, hb3⟩
      have hbw3 : Below W.heap.size W w3 := bel_then (bel_then HBV.out HBV.out.size HB2D.out) (Nat.le_trans HBV.out.size (show V.heap.size ≤ w2.drew.heap.size from HB2.out.size)) hb3
      have q3 := KS.out w3 (bel_then HB2D.out (show V.heap.size ≤ w2.drew.heap.size from HB2.out.size) hb3)
      obtain ⟨e3, he1, he2⟩ := we_of hJ true
      have hrow : RowS W.heap.size w3 e3 o3 (some val) := ⟨he1, by rw [he2]; exact own_weakJ hJ (Nat.le_trans HBV.out.size (show V.heap.size ≤ w2.drew.heap.size from HB2.out.size)), by rw [ho3, HVAL.out]; rfl⟩
      obtain ⟨w4, hput, hM4, hg4⟩ := mapG_put (W := w3) (HS.out.on hbw3).map (k := (ka, kb)) HFK.out (by have := HL.out; unfold maxLen; omega) e3
      have HT := hid (HS.out.lay HN0.out hbw3 (ka, kb) HBK.out e3 o3 (some val) (fun x hx => by injection hx with hx; rw [← hx, ← HVAL.out]; exact HBM.out) hrow hM4 hg4)
      have hput' : (Instr.mapUpdate 57 (.map (some m)) (.agg #[.string ka, .string kb]) (.agg #[.bool true, u])).run Try.prog w3 = .ok () w4 := by
        have e4 : MW.val e3 = .agg #[.bool true, u] := by show Value.agg #[.bool e3.live, e3.sl] = _; rw [he1, he2]
        rw [← e4]
        exact hput
      have q4 : w4.cell? ⟨g, 0, none⟩ = some (.map (some m)) ∧ w4.cell? ⟨N, 0, none⟩ = some (.string ka) ∧ w4.cell? ⟨N, 1, none⟩ = some (.string kb) := by
        have hml : m < W.heap.size := HS.out.map.lt
        have hsb := hbw3.size
        have x0 := HS.out.turned hbw3 hg4
        have hn3 : N < w3.heap.size := by have := hb3.size; have : w2.drew.heap.size = w2.heap.size := rfl; omega
        have x1 : w4.heap[N]? = w3.heap[N]? := hg4.block N hn3 (fun e => by injection e with e; omega)
        exact ⟨by rw [Lib.cell_of_heap x0.1]; rfl, (World.cell?_of_block x1).trans q3.2.1, (World.cell?_of_block x1).trans q3.2.2⟩
      obtain ⟨p3, c3, rfl⟩ := ownJ_slice hJ
      clear hJ ho3 hb3 hbw3 he1 he2 hrow hput hM4 hg4
      go_wp2_with fail
      refine hK.out _ _ q3 (fun hHeld => ?_)
      clear hK K
      try simp only [Act.put, List.setIfInBounds_toArray, List.set_cons_zero, List.set_cons_succ]
      refine take_val (i := 7) (.agg #[.bool true, .slice p3 o3.length c3]) rfl (by kernel_rfl) (by kernel_rfl) (by kernel_rfl) (fun _ _ _ h => h) (by rfl) (fun w hSw => by go_simp) hHeld ?_
      simp only [Act.put, List.setIfInBounds_toArray, List.set_cons_zero, List.set_cons_succ]
      refine wpAnyH_ready (rs := [8]) (by kernel_rfl) (by simp) ?_
      refine AllReadyH.cons (at_drop0 rfl) (fun K hK => ?_) AllReadyH.nil
      rw [if_pos (by rfl)]
      go_simp
      refine hK.out _ _ q4 (fun hHeld => ?_)
      clear hK K
      try simp only [Act.put, List.setIfInBounds_toArray, List.set_cons_zero, List.set_cons_succ]
      refine wpAnyH_done (by kernel_rfl) ?_ _
      go_wp2_with fail
      go_ret
      obtain ⟨e1, e2⟩ := codeP_ok (ka, kb) val HBK.out (by rw [← HVAL.out]; exact HBM.out) L
      rw [e1, e2]
      exact ⟨rfl, HT.out⟩

end Go.Proofs.Ytjehjjpdicimhaa

/-
  The program's set of writes (stage 11): the walks of Delete, Forget and Get.
-/
namespace Go.Proofs.Ytjehjjpdicimhaa
open Go.RowKit Go.Maps


set_option maxHeartbeats 4000000 in
set_option maxRecDepth 100000 in
theorem wdel_any {n0 : Nat} {W : World} {B : Nat → Prop} {g : Nat} {L : List RowW} (h : PrgW n0 W B g L) (hn : n0 ≤ W.heap.size) (hl : L.length < 1300000000000) (k : Ky) (hk : FitKy k) :
    Calls Try.prog 9 #[.pointer (some ⟨g, 0, none⟩), .agg #[.string k.1, .string k.2]] W fun e w' => e = .returned (.int .i64 (codeDW k)) ∧ STurn n0 W B g (dltW L k) w' := by
  obtain ⟨m, F, O, h⟩ := h
  obtain ⟨ka, kb⟩ := k
  obtain ⟨N, hN⟩ : ∃ N, W.heap.size = N := ⟨_, rfl⟩
  obtain ⟨V, hV⟩ : ∃ V, W.alloc (.cells #[.string ka, .string kb] 27) = V := ⟨_, rfl⟩
  have hbV : Below W.heap.size W V := by rw [← hV]; exact (Below.refl _ _).alloc (Nat.le_refl _) _
  have hbox : V.heap[N]? = some (.cells #[.string ka, .string kb] 27 (0, 0)) := by rw [← hV, ← hN]; exact heap_alloc_new W _
  have hsV : V.heap.size = N + 1 := by rw [← hV, ← hN]; simp
  have KS : Hid (∀ w' : World, Below V.heap.size V w' → w'.cell? ⟨g, 0, none⟩ = some (.map (some m)) ∧ w'.cell? ⟨N, 0, none⟩ = some (.string ka) ∧ w'.cell? ⟨N, 1, none⟩ = some (.string kb)) := fun w' hb => by
    have h3 := (hb.block N (by omega)).trans hbox
    exact ⟨(h.on (bel_then hbV hbV.size hb)).cell, by rw [Lib.cell_of_heap h3]; rfl, by rw [Lib.cell_of_heap h3]; rfl⟩
  obtain ⟨q0, q1, q2⟩ := KS.out V (Below.refl _ _)
  have HK := hid (key_any ka kb V hk.1 hk.2)
  have HS := hid h
  have HBV := hid hbV
  have HN0 := hid hn
  have HL := hid hl
  have HFK := hid hk
  clear h hbV hbox hn hl hk
  obtain ⟨bk, hbk⟩ : ∃ b, keyB ka kb = b := ⟨_, rfl⟩
  have HBK := hid hbk
  rw [hbk] at HK
  clear hbk
  go_enter Try.func9, Try.ntmps9
  go_wp2_with fail
  try rw [hN]
  try rw [hV]
  refine HK.out.mono ?_
  rintro e w2 ⟨rfl, hb2⟩
  obtain ⟨r0, r1, r2⟩ := KS.out w2 hb2
  have HB2D : Hid (Below V.heap.size V w2.drew) := hb2.drew
  have hs2 := hb2.size
  cases bk with
  | false =>
    go_wp2_with fail
    go_ret
    obtain ⟨e1, e2⟩ := codeD_no (ka, kb) HBK.out L
    rw [e1, e2]
    exact ⟨rfl, STurn.below HS.out (bel_then HBV.out HBV.out.size hb2)⟩
  | true =>
    have q2 := KS.out w2.drew HB2D.out
    have hbw3 : Below W.heap.size W w2.drew := bel_then HBV.out HBV.out.size HB2D.out
    have hrow : RowS W.heap.size w2.drew ⟨false, none, 0, 0⟩ [] none := ⟨rfl, own_noneX _ _, rfl⟩
    obtain ⟨w4, hput, hM4, hg4⟩ := mapG_put (W := w2.drew) (HS.out.on hbw3).map (k := (ka, kb)) HFK.out (by have := HL.out; unfold maxLen; omega) ⟨false, none, 0, 0⟩
    have HT := hid (HS.out.lay HN0.out hbw3 (ka, kb) HBK.out ⟨false, none, 0, 0⟩ [] none (fun x hx => by cases hx) hrow hM4 hg4)
    have hput' : (Instr.mapUpdate 57 (.map (some m)) (.agg #[.string ka, .string kb]) (.agg #[.bool false, .slice none 0 0])).run Try.prog w2.drew = .ok () w4 := hput
    have q4 : w4.cell? ⟨g, 0, none⟩ = some (.map (some m)) ∧ w4.cell? ⟨N, 0, none⟩ = some (.string ka) ∧ w4.cell? ⟨N, 1, none⟩ = some (.string kb) := by
      have hml : m < W.heap.size := HS.out.map.lt
      have x0 := HS.out.turned hbw3 hg4
      have hn3 : N < w2.drew.heap.size := by have : w2.drew.heap.size = w2.heap.size := rfl; omega
      have x1 : w4.heap[N]? = w2.drew.heap[N]? := hg4.block N hn3 (fun e => by injection e with e; omega)
      exact ⟨by rw [Lib.cell_of_heap x0.1]; rfl, (World.cell?_of_block x1).trans q2.2.1, (World.cell?_of_block x1).trans q2.2.2⟩
    clear hb2 r0 r1 r2 hbw3 hrow hput hM4 hg4
    go_wp2_with fail
    refine wp_region_held_drew (S := fun w' => w'.cell? ⟨g, 0, none⟩ = some (.map (some m)) ∧ w'.cell? ⟨N, 0, none⟩ = some (.string ka) ∧ w'.cell? ⟨N, 1, none⟩ = some (.string kb)) (by kernel_rfl) q2 (fun hHeld => ?_)
    refine take_val (i := 0) (.pointer (some ⟨g, 0, none⟩)) rfl (by kernel_rfl) (by kernel_rfl) (by kernel_rfl) (fun _ _ _ h => h) (by rfl) (fun w hSw => by go_simp) hHeld ?_
    simp only [Act.put, List.setIfInBounds_toArray, List.set_cons_zero, List.set_cons_succ]
    refine take_val (i := 1) (.pointer (some ⟨g, 0, none⟩)) rfl (by kernel_rfl) (by kernel_rfl) (by kernel_rfl) (fun _ _ _ h => h) (by rfl) (fun w hSw => by go_simp) hHeld ?_
    simp only [Act.put, List.setIfInBounds_toArray, List.set_cons_zero, List.set_cons_succ]
    refine take_val (i := 2) (.pointer (some ⟨g, 0, none⟩)) rfl (by kernel_rfl) (by kernel_rfl) (by kernel_rfl) (fun _ _ _ h => h) (by rfl) (fun w hSw => by go_simp) hHeld ?_
    simp only [Act.put, List.setIfInBounds_toArray, List.set_cons_zero, List.set_cons_succ]
    refine take_val (i := 3) (.map (some m)) rfl (by kernel_rfl) (by kernel_rfl) (by kernel_rfl) (fun _ _ _ h => h) (by rfl) (fun w hSw => by go_simp) hHeld ?_
    simp only [Act.put, List.setIfInBounds_toArray, List.set_cons_zero, List.set_cons_succ]
    refine take_val (i := 4) (.agg #[.string ka, .string kb]) rfl (by kernel_rfl) (by kernel_rfl) (by kernel_rfl) (fun _ _ _ h => h) (by rfl) (fun w hSw => by go_simp) hHeld ?_
    simp only [Act.put, List.setIfInBounds_toArray, List.set_cons_zero, List.set_cons_succ]
    refine take_val (i := 5) (.agg #[.bool false, .slice none 0 0]) rfl (by kernel_rfl) (by kernel_rfl) (by kernel_rfl) (fun _ _ _ h => h) (by rfl) (fun w hSw => by go_simp) hHeld ?_
    simp only [Act.put, List.setIfInBounds_toArray, List.set_cons_zero, List.set_cons_succ]
    refine wpAnyH_ready (rs := [6]) (by kernel_rfl) (by simp) ?_
    refine AllReadyH.cons (at_drop0 rfl) (fun K hK => ?_) AllReadyH.nil
    rw [if_pos (by rfl)]
    go_simp
    refine hK.out _ _ q4 (fun hHeld => ?_)
    clear hK K
    try simp only [Act.put, List.setIfInBounds_toArray, List.set_cons_zero, List.set_cons_succ]
    refine wpAnyH_done (by kernel_rfl) ?_ _
    go_wp2_with fail
    go_ret
    obtain ⟨e1, e2⟩ := codeD_ok (ka, kb) HBK.out L
    rw [e1, e2]
    exact ⟨rfl, HT.out⟩

set_option maxHeartbeats 1000000 in
theorem wput_nil (W : World) (k : Ky) (v : Value) : Calls Try.prog 8 #[.pointer none, .agg #[.string k.1, .string k.2], v] W fun e w' => e = .returned (.int .i64 1) ∧ Below W.heap.size W w' := by
  have HB : Hid (Below W.heap.size W (W.alloc (.cells #[.string k.1, .string k.2] 27))) := (Below.refl _ _).alloc (Nat.le_refl _) _
  go_enter Try.func8, Try.ntmps8
  go_wp2_with fail
  go_ret
  exact ⟨rfl, HB.out⟩
set_option maxHeartbeats 1000000 in
theorem wdel_nil (W : World) (k : Ky) : Calls Try.prog 9 #[.pointer none, .agg #[.string k.1, .string k.2]] W fun e w' => e = .returned (.int .i64 1) ∧ Below W.heap.size W w' := by
  have HB : Hid (Below W.heap.size W (W.alloc (.cells #[.string k.1, .string k.2] 27))) := (Below.refl _ _).alloc (Nat.le_refl _) _
  go_enter Try.func9, Try.ntmps9
  go_wp2_with fail
  go_ret
  exact ⟨rfl, HB.out⟩

end Go.Proofs.Ytjehjjpdicimhaa

/-
  The program's set of writes (stage 11): the walks of Forget and Get.
-/
namespace Go.Proofs.Ytjehjjpdicimhaa
open Go.RowKit Go.Maps

/-- What a look-up finds, and what Get tells of it. -/
theorem PrgU.look {n0 : Nat} {W : World} {B : Nat → Prop} {g m : Nat} {F : Ky → We} {O : Ky → List Fx} {L : List RowW} (h : PrgU n0 W B g m F O L) (k : Ky) (hk : FitKy k) :
    ∃ (lv : Bool) (p : Option Addr) (c : Nat) (o : List Fx), (Instr.lookup 57 (.map (some m)) (.agg #[.string k.1, .string k.2]) true).run Try.prog W = .ok (.tuple #[.agg #[.bool lv, .slice p o.length c], .bool (getW L k).isSome]) W ∧
      lv = liveW (getW L k) ∧ IsXs W (.slice p o.length c) o ∧ FitX o ∧ CopyX o ∧ o.map Fx.fld = valW (getW L k) := by
  have hl := mapG_look_ok h.map (k := k) hk
  rw [fS_some] at hl
  cases hr : getW L k with
  | none =>
    have e1 : fS L F k = none := by unfold fS; rw [hr]; rfl
    rw [e1, hr] at hl
    exact ⟨false, none, 0, [], hl, rfl, isXs_nil W |>.1, (isXs_nil W).2.1, (isXs_nil W).2.2, rfl⟩
  | some r =>
    have e1 : fS L F k = some (F k) := by unfold fS; rw [hr]; rfl
    rw [e1, hr] at hl
    obtain ⟨h1, h2, h3⟩ := h.row k r hr
    obtain ⟨p, c, hs⟩ := ownJ_slice h2
    have hmay : mayB ((O k).map Fx.fld) = true := by
      rw [h3]
      cases r with
      | none => exact may_nil
      | some v => exact h.ok.may _ (getW_mem hr) v rfl
    refine ⟨(F k).live, p, c, O k, ?_, ?_, ?_, (may_fit hmay).1, (may_fit hmay).2, h3⟩
    · rw [← hs]
      exact hl
    · rw [h1]
      cases r <;> rfl
    · rw [← hs]
      exact h2.1.is

set_option maxHeartbeats 4000000 in
set_option maxRecDepth 100000 in
theorem wforget_any {n0 : Nat} {W : World} {B : Nat → Prop} {g : Nat} {L : List RowW} (h : PrgW n0 W B g L) (k : Ky) (hk : FitKy k) :
    Calls Try.prog 10 #[.pointer (some ⟨g, 0, none⟩), .agg #[.string k.1, .string k.2]] W fun e w' => e = .returned (.bool (getW L k).isSome) ∧ STurn n0 W B g (delW L k) w' := by
  obtain ⟨m, F, O, h⟩ := h
  obtain ⟨ka, kb⟩ := k
  obtain ⟨N, hN⟩ : ∃ N, W.heap.size = N := ⟨_, rfl⟩
  obtain ⟨V, hV⟩ : ∃ V, W.alloc (.cells #[.string ka, .string kb] 27) = V := ⟨_, rfl⟩
  have hbV : Below W.heap.size W V := by rw [← hV]; exact (Below.refl _ _).alloc (Nat.le_refl _) _
  have hbox : V.heap[N]? = some (.cells #[.string ka, .string kb] 27 (0, 0)) := by rw [← hV, ← hN]; exact heap_alloc_new W _
  have hsV : V.heap.size = N + 1 := by rw [← hV, ← hN]; simp
  obtain ⟨lv, p, c, o, hlk, hrest⟩ := h.look (ka, kb) hk
  clear hrest
  obtain ⟨b, hb⟩ : ∃ b, (getW L (ka, kb)).isSome = b := ⟨_, rfl⟩
  have KS : Hid (∀ w' : World, Below V.heap.size V w' → w'.cell? ⟨g, 0, none⟩ = some (.map (some m)) ∧ w'.cell? ⟨N, 0, none⟩ = some (.string ka) ∧ w'.cell? ⟨N, 1, none⟩ = some (.string kb) ∧ (Instr.lookup 57 (.map (some m)) (.agg #[.string ka, .string kb]) true).run Try.prog w' = .ok (.tuple #[.agg #[.bool lv, .slice p o.length c], .bool b]) w') := fun w' hbl => by
    have h3 := (hbl.block N (by omega)).trans hbox
    have h4 := h.on (bel_then hbV hbV.size hbl)
    have hx := mapG_look_ok h4.map (k := (ka, kb)) hk
    have hy := mapG_look_ok h.map (k := (ka, kb)) hk
    have he : (Instr.lookup 57 (.map (some m)) (.agg #[.string ka, .string kb]) true).run Try.prog W = .ok (.tuple #[MW.val ((fS L F (ka, kb)).getD MW.zero), .bool (fS L F (ka, kb)).isSome]) W := hy
    rw [hlk] at he
    injection he with he _
    rw [hb] at he
    exact ⟨h4.cell, by rw [Lib.cell_of_heap h3]; rfl, by rw [Lib.cell_of_heap h3]; rfl, by rw [he]; exact hx⟩
  obtain ⟨X1, hX1⟩ : ∃ X1, V.drew.alloc (.cells #[.bool false, .slice none 0 0] 63) = X1 := ⟨_, rfl⟩
  have hb1 : Below V.heap.size V X1 := by rw [← hX1]; exact ((Below.refl _ V).drew).alloc (Nat.le_refl _) _
  have hb2 : Below V.heap.size V (X1.setCell ⟨N + 1, 0, none⟩ (.bool lv)) := hb1.setCell (show V.heap.size ≤ N + 1 by omega) _
  have hb3 : Below V.heap.size V ((X1.setCell ⟨N + 1, 0, none⟩ (.bool lv)).setCell ⟨N + 1, 1, none⟩ (.slice p o.length c)) := hb2.setCell (show V.heap.size ≤ N + 1 by omega) _
  have ho1 : X1.heap[N + 1]? = some (.cells #[.bool false, .slice none 0 0] 63 (0, 0)) := by rw [← hX1, ← hsV]; exact heap_alloc_new V.drew _
  have z0 : X1.cell? ⟨N + 1, 0, none⟩ = some (.bool false) := by rw [Lib.cell_of_heap ho1]; rfl
  have z1 : X1.cell? ⟨N + 1, 1, none⟩ = some (.slice none 0 0) := by rw [Lib.cell_of_heap ho1]; rfl
  have z2 : X1.frozen? ⟨N + 1, 0, none⟩ = false := Lib.frozen_of_heap ho1 0
  have z3 : X1.frozen? ⟨N + 1, 1, none⟩ = false := Lib.frozen_of_heap ho1 1
  have HALL : Hid (∀ w' : World, w'.cell? ⟨g, 0, none⟩ = some (.map (some m)) → Calls Try.prog 21 #[.pointer (some ⟨g, 0, none⟩)] w' fun e w2 => e = .returned (.map (some m)) ∧ w2 = w') := fun w' hc => allW_is g m w' hc
  have HDEL : Hid (∀ w', Below V.heap.size V w' → ∃ w2, (Builtin.delete_ #[57, 27] 0 #[.map (some m), .agg #[.string ka, .string kb]]).run Try.prog w' = .ok (.tuple #[]) w2 ∧ STurn n0 W B g (delW L (ka, kb)) w2 ∧ w2.cell? ⟨g, 0, none⟩ = some (.map (some m)) ∧ w2.cell? ⟨N, 0, none⟩ = some (.string ka) ∧ w2.cell? ⟨N, 1, none⟩ = some (.string kb)) := fun w' hbl => by
    have hbw := bel_then hbV hbV.size hbl
    obtain ⟨w2, c', hrun, hM2, hc', hg2, _⟩ := mapG_del (h.on hbw).map (k := (ka, kb)) hk 0
    have hml : m < W.heap.size := h.map.lt
    have x0 := h.turned hbw hg2
    have x1 : w2.heap[N]? = w'.heap[N]? := hg2.block N (by have := hbl.size; omega) (fun e => by injection e with e; omega)
    have h3 := x1.trans ((hbl.block N (by omega)).trans hbox)
    exact ⟨w2, hrun, h.gone hbw (ka, kb) hM2 hc' hg2, by rw [Lib.cell_of_heap x0.1]; rfl, by rw [Lib.cell_of_heap h3]; rfl, by rw [Lib.cell_of_heap h3]; rfl⟩
  have q0 := KS.out V.drew (Below.refl _ V).drew
  have q1 := KS.out _ hb1
  have q2 := KS.out _ hb3
  have q3 := KS.out _ (hb3.drew)
  obtain ⟨w2, hrun, hT, t0, t1, t2⟩ := HDEL.out _ (hb3.drew)
  have HT := hid hT
  rw [hb]
  clear h hbV hbox hlk hb hb1 hb2 hb3 ho1 hT KS HDEL hk
  go_enter Try.func10, Try.ntmps10
  go_wp2_with fail
  try rw [hN]
  try rw [hV]
  go_region_held3 (fun w' => w'.cell? ⟨g, 0, none⟩ = some (.map (some m)) ∧ w'.cell? ⟨N, 0, none⟩ = some (.string ka) ∧ w'.cell? ⟨N, 1, none⟩ = some (.string kb) ∧ (Instr.lookup 57 (.map (some m)) (.agg #[.string ka, .string kb]) true).run Try.prog w' = .ok (.tuple #[.agg #[.bool lv, .slice p o.length c], .bool b]) w')
    (first | exact q0 | exact q1 | exact q2)
    (first | (go_at_call 21; refine (HALL.out _ (by first | exact q0.1 | exact q1.1)).mono ?_; rintro e w5 ⟨rfl, rfl⟩))
  all_goals
    go_wp2_with fail
    refine wp_region_held_drew (S := fun w' => w'.cell? ⟨g, 0, none⟩ = some (.map (some m)) ∧ w'.cell? ⟨N, 0, none⟩ = some (.string ka) ∧ w'.cell? ⟨N, 1, none⟩ = some (.string kb)) (by kernel_rfl) ⟨q3.1, q3.2.1, q3.2.2.1⟩ (fun hHeld => ?_)
    refine take_val (i := 0) (.pointer (some ⟨g, 0, none⟩)) rfl (by kernel_rfl) (by kernel_rfl) (by kernel_rfl) (fun _ _ _ h => h) (by rfl) (fun w hSw => by go_simp) hHeld ?_
    simp only [Act.put, List.setIfInBounds_toArray, List.set_cons_zero, List.set_cons_succ]
    refine take_val (i := 2) (.agg #[.string ka, .string kb]) rfl (by kernel_rfl) (by kernel_rfl) (by kernel_rfl) (fun _ _ _ h => h) (by rfl) (fun w hSw => by go_simp) hHeld ?_
    simp only [Act.put, List.setIfInBounds_toArray, List.set_cons_zero, List.set_cons_succ]
    refine wpAnyH_ready (rs := [1]) (by kernel_rfl) (by simp) ?_
    refine AllReadyH.cons (at_drop0 rfl) (fun K hK => ?_) AllReadyH.nil
    rw [if_pos (by rfl)]
    go_simp
    refine (HALL.out _ q3.1).mono ?_
    rintro e w5 ⟨rfl, rfl⟩
    go_wp2_with fail
    refine hK.out _ _ (⟨q3.1, q3.2.1, q3.2.2.1⟩) (fun hHeld => ?_)
    clear hK K
    try simp only [Act.put, List.setIfInBounds_toArray, List.set_cons_zero, List.set_cons_succ]
    refine wpAnyH_ready (rs := [3]) (by kernel_rfl) (by simp) ?_
    refine AllReadyH.cons (at_drop0 rfl) (fun K hK => ?_) AllReadyH.nil
    rw [if_pos (by rfl)]
    go_simp
    refine hK.out _ _ (⟨t0, t1, t2⟩) (fun hHeld => ?_)
    clear hK K
    try simp only [Act.put, List.setIfInBounds_toArray, List.set_cons_zero, List.set_cons_succ]
    refine wpAnyH_done (by kernel_rfl) ?_ _
    go_wp2_with fail
    go_ret
    exact ⟨rfl, HT.out⟩

end Go.Proofs.Ytjehjjpdicimhaa

/-
  The program's set of writes (stage 11): the walk of Get; Get and Forget of a nil set.
-/
namespace Go.Proofs.Ytjehjjpdicimhaa
open Go.RowKit Go.Maps

theorem look_nilW (W : World) (k : Ky) (hk : FitKy k) : (Instr.lookup 57 (.map none) (.agg #[.string k.1, .string k.2]) true).run Try.prog W = .ok (.tuple #[.agg #[.bool false, .slice none 0 0], .bool false]) W := by
  have := Maps.look_nil (w := W) true Try.keyedKey Try.underlying57 (MW.zeroV W) (keyL_is (x := k) hk)
  exact this
theorem drop_nilW (W : World) (k : Ky) (hk : FitKy k) : (Builtin.delete_ #[57, 27] 0 #[.map none, .agg #[.string k.1, .string k.2]]).run Try.prog W = .ok (.tuple #[]) W :=
  Maps.drop_nil (w := W) Try.keyedKey Try.underlying57 (keyL_is (x := k) hk) 0

/-- What a set, or none, has at a key, in all that comes. -/
structure LookS (W : World) (r : Option Addr) (mp : Option Nat) (ka kb : ByteArray) (lv b : Bool) (p : Option Addr) (c : Nat) (o : List Fx) : Prop where
  all : ∀ w', Below W.heap.size W w' → Calls Try.prog 21 #[.pointer r] w' fun e w2 => e = .returned (.map mp) ∧ w2 = w'
  look : ∀ w', Below W.heap.size W w' → (Instr.lookup 57 (.map mp) (.agg #[.string ka, .string kb]) true).run Try.prog w' = .ok (.tuple #[.agg #[.bool lv, .slice p o.length c], .bool b]) w'

set_option maxRecDepth 100000 in
theorem LookS.of {n0 : Nat} {W : World} {B : Nat → Prop} {g m : Nat} {F : Ky → We} {O : Ky → List Fx} {L : List RowW} (h : PrgU n0 W B g m F O L) (ka kb : ByteArray) (hk : FitKy (ka, kb)) :
    ∃ lv p c o, LookS W (some ⟨g, 0, none⟩) (some m) ka kb lv (getW L (ka, kb)).isSome p c o ∧ lv = liveW (getW L (ka, kb)) ∧ IsXs W (.slice p o.length c) o ∧ FitX o ∧ CopyX o ∧ o.map Fx.fld = valW (getW L (ka, kb)) := by
  obtain ⟨lv, p, c, o, hlk, hrest⟩ := h.look (ka, kb) hk
  refine ⟨lv, p, c, o, ⟨fun w' hb => allW_is g m w' (h.on hb).cell, fun w' hb => ?_⟩, hrest⟩
  have hx := mapG_look_ok (h.on hb).map (k := (ka, kb)) hk
  have he : (Instr.lookup 57 (.map (some m)) (.agg #[.string ka, .string kb]) true).run Try.prog W = .ok (.tuple #[MW.val ((fS L F (ka, kb)).getD MW.zero), .bool (fS L F (ka, kb)).isSome]) W := mapG_look_ok h.map (k := (ka, kb)) hk
  rw [hlk] at he
  injection he with he _
  rw [he]
  exact hx
theorem LookS.nil (W : World) (ka kb : ByteArray) (hk : FitKy (ka, kb)) : LookS W none none ka kb false false none 0 [] := ⟨fun w' _ => allW_nil w', fun w' _ => look_nilW w' (ka, kb) hk⟩

set_option maxHeartbeats 4000000 in
set_option maxRecDepth 100000 in
theorem wget_gen {W : World} {r : Option Addr} {mp : Option Nat} {ka kb : ByteArray} {lv b : Bool} {p : Option Addr} {c : Nat} {o : List Fx} (h : LookS W r mp ka kb lv b p c o) (hx : IsXs W (.slice p o.length c) o) (hf : FitX o) (hc : CopyX o) :
    Calls Try.prog 11 #[.pointer r, .agg #[.string ka, .string kb]] W fun e w' => ∃ p' c' o', e = .returned (.tuple #[.slice p' o'.length c', .bool lv, .bool b]) ∧ OwnJ W.heap.size w' (.slice p' o'.length c') o' ∧ o'.map Fx.fld = o.map Fx.fld ∧ Below W.heap.size W w' := by
  obtain ⟨N, hN⟩ : ∃ N, W.heap.size = N := ⟨_, rfl⟩
  obtain ⟨V, hV⟩ : ∃ V, W.alloc (.cells #[.string ka, .string kb] 27) = V := ⟨_, rfl⟩
  have hbV : Below W.heap.size W V := by rw [← hV]; exact (Below.refl _ _).alloc (Nat.le_refl _) _
  have hbox : V.heap[N]? = some (.cells #[.string ka, .string kb] 27 (0, 0)) := by rw [← hV, ← hN]; exact heap_alloc_new W _
  have hsV : V.heap.size = N + 1 := by rw [← hV, ← hN]; simp
  have KS : Hid (∀ w' : World, Below V.heap.size V w' → w'.cell? ⟨N, 0, none⟩ = some (.string ka) ∧ w'.cell? ⟨N, 1, none⟩ = some (.string kb) ∧ (Instr.lookup 57 (.map mp) (.agg #[.string ka, .string kb]) true).run Try.prog w' = .ok (.tuple #[.agg #[.bool lv, .slice p o.length c], .bool b]) w') := fun w' hbl => by
    have h3 := (hbl.block N (by omega)).trans hbox
    exact ⟨by rw [Lib.cell_of_heap h3]; rfl, by rw [Lib.cell_of_heap h3]; rfl, h.look _ (bel_then hbV hbV.size hbl)⟩
  obtain ⟨X1, hX1⟩ : ∃ X1, V.drew.alloc (.cells #[.bool false, .slice none 0 0] 63) = X1 := ⟨_, rfl⟩
  have hb1 : Below V.heap.size V X1 := by rw [← hX1]; exact ((Below.refl _ V).drew).alloc (Nat.le_refl _) _
  have hb2 : Below V.heap.size V (X1.setCell ⟨N + 1, 0, none⟩ (.bool lv)) := hb1.setCell (show V.heap.size ≤ N + 1 by omega) _
  have hb3 : Below V.heap.size V ((X1.setCell ⟨N + 1, 0, none⟩ (.bool lv)).setCell ⟨N + 1, 1, none⟩ (.slice p o.length c)) := hb2.setCell (show V.heap.size ≤ N + 1 by omega) _
  have ho1 : X1.heap[N + 1]? = some (.cells #[.bool false, .slice none 0 0] 63 (0, 0)) := by rw [← hX1, ← hsV]; exact heap_alloc_new V.drew _
  have ho2 : ((X1.setCell ⟨N + 1, 0, none⟩ (.bool lv)).setCell ⟨N + 1, 1, none⟩ (.slice p o.length c)).heap[N + 1]? = some (.cells #[.bool lv, .slice p o.length c] 63 (0, 0)) := heap_setCell_same (X1.setCell ⟨N + 1, 0, none⟩ (.bool lv)) (N + 1) 1 _ _ _ (heap_setCell_same X1 (N + 1) 0 _ _ _ ho1)
  obtain ⟨X3, hX3⟩ : ∃ X3, (X1.setCell ⟨N + 1, 0, none⟩ (.bool lv)).setCell ⟨N + 1, 1, none⟩ (.slice p o.length c) = X3 := ⟨_, rfl⟩
  rw [hX3] at ho2 hb3
  have z0 : X1.cell? ⟨N + 1, 0, none⟩ = some (.bool false) := by rw [Lib.cell_of_heap ho1]; rfl
  have z1 : X1.cell? ⟨N + 1, 1, none⟩ = some (.slice none 0 0) := by rw [Lib.cell_of_heap ho1]; rfl
  have z2 : X1.frozen? ⟨N + 1, 0, none⟩ = false := Lib.frozen_of_heap ho1 0
  have z3 : X1.frozen? ⟨N + 1, 1, none⟩ = false := Lib.frozen_of_heap ho1 1
  have KT : Hid (∀ w' : World, Below X3.heap.size X3.drew w' → w'.cell? ⟨N + 1, 0, none⟩ = some (.bool lv) ∧ w'.cell? ⟨N + 1, 1, none⟩ = some (.slice p o.length c)) := fun w' hbl => by
    have h3 := (hbl.block (N + 1) (by have := (Array.getElem?_eq_some_iff.1 ho2).1; omega)).trans ho2
    exact ⟨by rw [Lib.cell_of_heap h3]; rfl, by rw [Lib.cell_of_heap h3]; rfl⟩
  have HALL : Hid (∀ w' : World, Below V.heap.size V w' → Calls Try.prog 21 #[.pointer r] w' fun e w2 => e = .returned (.map mp) ∧ w2 = w') := fun w' hb => h.all w' (bel_then hbV hbV.size hb)
  have hbd : Below V.heap.size V V.drew := (Below.refl _ V).drew
  have HBD := hid hbd
  have HB1 := hid hb1
  have HB3 := hid hb3
  have HBV := hid hbV
  have q0 := KS.out V.drew hbd
  have q1 := KS.out _ hb1
  have q2 := KS.out _ hb3
  have q3 := KT.out X3.drew (Below.refl _ _)
  have HC := hid (wcopied_any (.slice p o.length c) o X3.drew ((hx.kept hbV).kept (show Below V.heap.size V X3.drew from hb3.drew)) hf hc)
  clear h hbV hbox hb1 hb2 hb3 ho1 ho2 KS hbd hx hf hc
  go_enter Try.func11, Try.ntmps11
  go_wp2_with fail
  try rw [hN]
  try rw [hV]
  go_region_held3 (fun w' => w'.cell? ⟨N, 0, none⟩ = some (.string ka) ∧ w'.cell? ⟨N, 1, none⟩ = some (.string kb) ∧ (Instr.lookup 57 (.map mp) (.agg #[.string ka, .string kb]) true).run Try.prog w' = .ok (.tuple #[.agg #[.bool lv, .slice p o.length c], .bool b]) w')
    (first | exact q0 | exact q1 | exact q2)
    (first | (go_at_call 21; refine (HALL.out _ (by first | exact HBD.out | exact HB1.out)).mono ?_; rintro e w5 ⟨rfl, rfl⟩))
  all_goals
    go_wp2_with fail
    try rw [hX3]
    refine wp_region_held_drew (S := fun w' => w'.cell? ⟨N + 1, 0, none⟩ = some (.bool lv) ∧ w'.cell? ⟨N + 1, 1, none⟩ = some (.slice p o.length c)) (by kernel_rfl) q3 (fun hHeld => ?_)
    refine take_val (i := 0) (.pointer (some ⟨N + 1, 1, none⟩)) rfl (by kernel_rfl) (by kernel_rfl) (by kernel_rfl) (fun _ _ _ h => h) (by rfl) (fun w hSw => by go_simp) hHeld ?_
    simp only [Act.put, List.setIfInBounds_toArray, List.set_cons_zero, List.set_cons_succ]
    refine take_val (i := 1) (.slice p o.length c) rfl (by kernel_rfl) (by kernel_rfl) (by kernel_rfl) (fun _ _ _ h => h) (by rfl) (fun w hSw => by go_simp) hHeld ?_
    simp only [Act.put, List.setIfInBounds_toArray, List.set_cons_zero, List.set_cons_succ]
    refine take_val (i := 3) (.pointer (some ⟨N + 1, 0, none⟩)) rfl (by kernel_rfl) (by kernel_rfl) (by kernel_rfl) (fun _ _ _ h => h) (by rfl) (fun w hSw => by go_simp) hHeld ?_
    simp only [Act.put, List.setIfInBounds_toArray, List.set_cons_zero, List.set_cons_succ]
    refine take_val (i := 4) (.bool lv) rfl (by kernel_rfl) (by kernel_rfl) (by kernel_rfl) (fun _ _ _ h => h) (by rfl) (fun w hSw => by go_simp) hHeld ?_
    simp only [Act.put, List.setIfInBounds_toArray, List.set_cons_zero, List.set_cons_succ]
    refine take_val (i := 5) (.bool b) rfl (by kernel_rfl) (by kernel_rfl) (by kernel_rfl) (fun _ _ _ h => h) (by rfl) (fun w hSw => by go_simp) hHeld ?_
    simp only [Act.put, List.setIfInBounds_toArray, List.set_cons_zero, List.set_cons_succ]
    refine wpAnyH_ready (rs := [2]) (by kernel_rfl) (by simp) ?_
    refine AllReadyH.cons (at_drop0 rfl) (fun K hK => ?_) AllReadyH.nil
    rw [if_pos (by rfl)]
    go_simp
    refine HC.out.mono ?_
    rintro e w5 ⟨u, o', rfl, hJ, ho', hb5⟩
    have q5 := KT.out w5 hb5
    have HP : Hid (OwnJ W.heap.size w5 u o' ∧ o'.map Fx.fld = o.map Fx.fld ∧ Below W.heap.size W w5) := by
      have hbw : Below W.heap.size W X3.drew := bel_then HBV.out HBV.out.size HB3.out.drew
      exact ⟨own_weakJ hJ hbw.size, ho', bel_then hbw hbw.size hb5⟩
    obtain ⟨p', c', rfl⟩ := ownJ_slice hJ
    clear hJ ho' hb5
    go_wp2_with fail
    refine hK.out _ _ q5 (fun hHeld => ?_)
    clear hK K
    try simp only [Act.put, List.setIfInBounds_toArray, List.set_cons_zero, List.set_cons_succ]
    refine take_val (i := 6) (.slice p' o'.length c') rfl (by kernel_rfl) (by kernel_rfl) (by kernel_rfl) (fun _ _ _ h => h) (by rfl) (fun w hSw => by go_simp) hHeld ?_
    simp only [Act.put, List.setIfInBounds_toArray, List.set_cons_zero, List.set_cons_succ]
    refine take_val (i := 7) (.bool lv) rfl (by kernel_rfl) (by kernel_rfl) (by kernel_rfl) (fun _ _ _ h => h) (by rfl) (fun w hSw => by go_simp) hHeld ?_
    simp only [Act.put, List.setIfInBounds_toArray, List.set_cons_zero, List.set_cons_succ]
    refine take_val (i := 8) (.bool b) rfl (by kernel_rfl) (by kernel_rfl) (by kernel_rfl) (fun _ _ _ h => h) (by rfl) (fun w hSw => by go_simp) hHeld ?_
    simp only [Act.put, List.setIfInBounds_toArray, List.set_cons_zero, List.set_cons_succ]
    refine wpAnyH_done (by kernel_rfl) ?_ _
    go_wp2_with fail
    go_ret3
    exact ⟨p', c', o', rfl, HP.out⟩

theorem wget_any {n0 : Nat} {W : World} {B : Nat → Prop} {g : Nat} {L : List RowW} (h : PrgW n0 W B g L) (k : Ky) (hk : FitKy k) :
    Calls Try.prog 11 #[.pointer (some ⟨g, 0, none⟩), .agg #[.string k.1, .string k.2]] W fun e w' => GetPostP W L k e w' := by
  obtain ⟨m, F, O, h⟩ := h
  obtain ⟨lv, p, c, o, hl, rfl, hx, hf, hc, ho⟩ := LookS.of h k.1 k.2 hk
  refine (wget_gen hl hx hf hc).mono ?_
  rintro e w' ⟨p', c', o', rfl, h1, h2, h3⟩
  exact ⟨p', c', o', rfl, h1, h2.trans ho, h3⟩
theorem wget_nil (W : World) (k : Ky) (hk : FitKy k) : Calls Try.prog 11 #[.pointer none, .agg #[.string k.1, .string k.2]] W fun e w' => GetPostP W [] k e w' := by
  refine (wget_gen (LookS.nil W k.1 k.2 hk) (isXs_nil W).1 (isXs_nil W).2.1 (isXs_nil W).2.2).mono ?_
  rintro e w' ⟨p', c', o', rfl, h1, h2, h3⟩
  exact ⟨p', c', o', rfl, h1, h2, h3⟩

set_option maxHeartbeats 4000000 in
set_option maxRecDepth 100000 in
theorem wforget_nil (W : World) (k : Ky) (hk : FitKy k) : Calls Try.prog 10 #[.pointer none, .agg #[.string k.1, .string k.2]] W fun e w' => e = .returned (.bool false) ∧ Below W.heap.size W w' := by
  obtain ⟨ka, kb⟩ := k
  have h := LookS.nil W ka kb hk
  obtain ⟨N, hN⟩ : ∃ N, W.heap.size = N := ⟨_, rfl⟩
  obtain ⟨V, hV⟩ : ∃ V, W.alloc (.cells #[.string ka, .string kb] 27) = V := ⟨_, rfl⟩
  have hbV : Below W.heap.size W V := by rw [← hV]; exact (Below.refl _ _).alloc (Nat.le_refl _) _
  have hbox : V.heap[N]? = some (.cells #[.string ka, .string kb] 27 (0, 0)) := by rw [← hV, ← hN]; exact heap_alloc_new W _
  have hsV : V.heap.size = N + 1 := by rw [← hV, ← hN]; simp
  have KS : Hid (∀ w' : World, Below V.heap.size V w' → w'.cell? ⟨N, 0, none⟩ = some (.string ka) ∧ w'.cell? ⟨N, 1, none⟩ = some (.string kb) ∧ (Instr.lookup 57 (.map none) (.agg #[.string ka, .string kb]) true).run Try.prog w' = .ok (.tuple #[.agg #[.bool false, .slice none 0 0], .bool false]) w') := fun w' hbl => by
    have h3 := (hbl.block N (by omega)).trans hbox
    exact ⟨by rw [Lib.cell_of_heap h3]; rfl, by rw [Lib.cell_of_heap h3]; rfl, h.look _ (bel_then hbV hbV.size hbl)⟩
  obtain ⟨X1, hX1⟩ : ∃ X1, V.drew.alloc (.cells #[.bool false, .slice none 0 0] 63) = X1 := ⟨_, rfl⟩
  have hb1 : Below V.heap.size V X1 := by rw [← hX1]; exact ((Below.refl _ V).drew).alloc (Nat.le_refl _) _
  have hb2 : Below V.heap.size V (X1.setCell ⟨N + 1, 0, none⟩ (.bool false)) := hb1.setCell (show V.heap.size ≤ N + 1 by omega) _
  have hb3 : Below V.heap.size V ((X1.setCell ⟨N + 1, 0, none⟩ (.bool false)).setCell ⟨N + 1, 1, none⟩ (.slice none 0 0)) := hb2.setCell (show V.heap.size ≤ N + 1 by omega) _
  have ho1 : X1.heap[N + 1]? = some (.cells #[.bool false, .slice none 0 0] 63 (0, 0)) := by rw [← hX1, ← hsV]; exact heap_alloc_new V.drew _
  have z0 : X1.cell? ⟨N + 1, 0, none⟩ = some (.bool false) := by rw [Lib.cell_of_heap ho1]; rfl
  have z1 : X1.cell? ⟨N + 1, 1, none⟩ = some (.slice none 0 0) := by rw [Lib.cell_of_heap ho1]; rfl
  have z2 : X1.frozen? ⟨N + 1, 0, none⟩ = false := Lib.frozen_of_heap ho1 0
  have z3 : X1.frozen? ⟨N + 1, 1, none⟩ = false := Lib.frozen_of_heap ho1 1
  have HALL : Hid (∀ w' : World, Calls Try.prog 21 #[.pointer none] w' fun e w2 => e = .returned (.map none) ∧ w2 = w') := fun w' => allW_nil w'
  have hdel := fun w' => drop_nilW w' (ka, kb) hk
  have HB3 := hid (bel_then hbV hbV.size hb3)
  have q0 := KS.out V.drew (Below.refl _ V).drew
  have q1 := KS.out _ hb1
  have q2 := KS.out _ hb3
  have q3 := KS.out _ hb3.drew
  simp only at hdel
  clear h hbV hbox hb1 hb2 hb3 ho1 KS
  go_enter Try.func10, Try.ntmps10
  go_wp2_with fail
  try rw [hN]
  try rw [hV]
  go_region_held3 (fun w' => w'.cell? ⟨N, 0, none⟩ = some (.string ka) ∧ w'.cell? ⟨N, 1, none⟩ = some (.string kb) ∧ (Instr.lookup 57 (.map none) (.agg #[.string ka, .string kb]) true).run Try.prog w' = .ok (.tuple #[.agg #[.bool false, .slice none 0 0], .bool false]) w')
    (first | exact q0 | exact q1 | exact q2)
    (first | (go_at_call 21; refine (HALL.out _).mono ?_; rintro e w5 ⟨rfl, rfl⟩))
  all_goals
    go_wp2_with fail
    refine wp_region_held_drew (S := fun w' => w'.cell? ⟨N, 0, none⟩ = some (.string ka) ∧ w'.cell? ⟨N, 1, none⟩ = some (.string kb)) (by kernel_rfl) ⟨q3.1, q3.2.1⟩ (fun hHeld => ?_)
    refine take_val (i := 0) (.pointer none) rfl (by kernel_rfl) (by kernel_rfl) (by kernel_rfl) (fun _ _ _ h => h) (by rfl) (fun w hSw => by go_simp) hHeld ?_
    simp only [Act.put, List.setIfInBounds_toArray, List.set_cons_zero, List.set_cons_succ]
    refine take_val (i := 2) (.agg #[.string ka, .string kb]) rfl (by kernel_rfl) (by kernel_rfl) (by kernel_rfl) (fun _ _ _ h => h) (by rfl) (fun w hSw => by go_simp) hHeld ?_
    simp only [Act.put, List.setIfInBounds_toArray, List.set_cons_zero, List.set_cons_succ]
    refine wpAnyH_ready (rs := [1]) (by kernel_rfl) (by simp) ?_
    refine AllReadyH.cons (at_drop0 rfl) (fun K hK => ?_) AllReadyH.nil
    rw [if_pos (by rfl)]
    go_simp
    refine (HALL.out _).mono ?_
    rintro e w5 ⟨rfl, rfl⟩
    go_wp2_with fail
    refine hK.out _ _ (⟨q3.1, q3.2.1⟩) (fun hHeld => ?_)
    clear hK K
    try simp only [Act.put, List.setIfInBounds_toArray, List.set_cons_zero, List.set_cons_succ]
    refine wpAnyH_ready (rs := [3]) (by kernel_rfl) (by simp) ?_
    refine AllReadyH.cons (at_drop0 rfl) (fun K hK => ?_) AllReadyH.nil
    rw [if_pos (by rfl)]
    go_simp
    refine hK.out _ _ (⟨q3.1, q3.2.1⟩) (fun hHeld => ?_)
    clear hK K
    try simp only [Act.put, List.setIfInBounds_toArray, List.set_cons_zero, List.set_cons_succ]
    refine wpAnyH_done (by kernel_rfl) ?_ _
    go_wp2_with fail
    go_ret
    exact ⟨rfl, HB3.out.drew⟩

end Go.Proofs.Ytjehjjpdicimhaa

/-
  A range over an iterator that hands out what lies in memory (stage 7): the law that the walks of Scan, Walk and walked take. After the law of Rng, for one that only adds to memory between two rounds.
-/
namespace Go.Proofs.Ytjehjjpdicimhaa
open Go.RowKit

/-- The iterator's contract: what it hands out, x, is then as Gd says; a round that goes on keeps what Kp says. -/
def SeqM {α : Type} (F : Fence) (n : Nat) (P : Program) (g : Nat) (lb : Array Value) (encs : α → Array Value) (Gd : List α → α → World → Prop) (Kp : World → World → Prop) (S Sp : List α → Prop) (w : World) : Prop :=
  ∀ (l : Nat) (J Jx : List α → World → Prop) (W : World), Below w.heap.size w W → AbidesFrom W.heap.size J →
    (∀ pre x W1, J pre W1 → Gd pre x W1 → YieldAt F (n - 1) P l (encs x) W1 fun e W' =>
      (e = .returned (.bool true) ∧ J (pre ++ [x]) W' ∧ Kp W1 W') ∨ (e = .returned (.bool false) ∧ Jx (pre ++ [x]) W')) →
    J [] W →
    CallsIn F n P g (#[.func (.yield l) #[] #[]] ++ lb) W fun e W' => (∃ v, e = .returned v) ∧ ((∃ xs, S xs ∧ J xs W') ∨ (∃ pre, Sp pre ∧ Jx pre W'))

variable {F : Fence} {n : Nat} {P : Program}

theorem walk_not_cells {o : Obj} (h : o.isWalk = true) : o.isCells = false := by cases o <;> simp_all [Obj.isWalk, Obj.isCells]

theorem wpIn_rangeFunc_mem {α : Type} {g : Operand} {ps : Array Tmp} {assign body : Code} {Q : Exit → Act → World → Prop} {a : Act} {w : World}
    (hro : F.round = none) (h1 : 1 ≤ n) {gf : Nat} {lb : Array Value} (hg : a.eval g = .func (.func gf) #[] lb) (hFg : F.fn gf) (eg : ∀ args w, (callFunc gf args).run P w = .ok (.enter gf args) w)
    {encs : α → Array Value} {Gd : List α → α → World → Prop} {Kp : World → World → Prop} {S Sp : List α → Prop} (hseq : SeqM F (n - 1) P gf lb encs Gd Kp S Sp w)
    (hKt : ∀ {A B C : World}, Kp A B → Kp B C → Kp A C) (hKb : ∀ (W : World) (l : Nat) (o' : Obj), w.heap.size ≤ l → (∃ r, W.heap[l]? = some (.loop r)) → Kp W (W.putObj l o')) (hps : ∀ x, (encs x).size = ps.size)
    (I : List α → World → Prop) (Ix : Code → List α → World → Prop) (hI : OwnFrom w.heap.size I) (hIx : ∀ c, OwnFrom w.heap.size (Ix c)) (h0 : I [] w)
    (Ax : List α → α → Act → World → Prop) (hAx : ∀ pre x a', OwnFrom w.heap.size (fun (_ : Unit) W => Ax pre x a' W))
    (hassign : ∀ (l : Nat) (pre : List α) (x : α) (W : World) (K : Act → World → Prop), w.heap.size < W.heap.size → I pre W → Gd pre x W → (∀ a' W', KeepsFrom w.heap.size W W' → Kp W W' → Ax pre x a' W' → K a' W') →
      assign.wpIn (F.inRound l) (n - 1 - 1) P (Exit.then K (fun _ _ _ => False)) { tmps := (ps.zip (encs x)).foldl (fun t (p, v) => t.setIfInBounds p v) a.tmps, defers := [] } W)
    (hbody : ∀ (l : Nat) (pre : List α) (x : α) (a' : Act) (W : World), w.heap.size < W.heap.size → Ax pre x a' W → body.wpIn (F.inRound l) (n - 1 - 1) P (ownPostG w.heap.size Kp I Ix (pre ++ [x]) W) a' W)
    (hdone : ∀ (xs : List α) (W : World), S xs → I xs W → W.heap[w.heap.size]? = some (.deferred (some [])) → Q .normal { a with defers := { target := .collected w.heap.size, args := #[] } :: a.defers } W)
    (hstop : ∀ (c : Code) (pre : List α) (W : World), Sp pre → Ix c pre W → W.heap[w.heap.size]? = some (.deferred (some [])) → c.wpIn F n P Q { a with defers := { target := .collected w.heap.size, args := #[] } :: a.defers } W) :
    (Code.rangeFunc g ps assign body).wpIn F n P Q a w := by
  refine wpIn_rangeFunc ?_
  intro fn hfn
  rw [hro]
  obtain ⟨rec, hrec⟩ : ∃ rec : LoopState → Option Code → Loop, rec = fun st pe => { state := st, pending := pe, fn, tmps := a.tmps, params := ps, assign, body, defers := w.heap.size } := ⟨_, rfl⟩
  obtain ⟨W1, hW1⟩ : ∃ W1, (w.alloc (.deferred (some []))).alloc (.loop (rec .ready none)) = W1 := ⟨_, rfl⟩
  have hL1 : W1.heap[w.heap.size + 1]? = some (.loop (rec .ready none)) := by
    rw [← hW1]; have := World.alloc_heap_new (w.alloc (.deferred (some []))) (.loop (rec .ready none)); rwa [World.size_alloc] at this
  have hK1 : W1.heap[w.heap.size]? = some (.deferred (some [])) := by
    rw [← hW1]; exact (Below.heap_alloc _ _ _ (by simp)).trans (World.alloc_heap_new w _)
  have hb1 : Below w.heap.size w W1 := by
    rw [← hW1]; exact ((Below.refl _ w).alloc (Nat.le_refl _) _).alloc (by simp) _
  have hs1 : W1.heap.size = w.heap.size + 2 := by rw [← hW1]; simp
  have hI1 : I [] W1 := by rw [← hW1]; exact hI.alloc _ (hI.alloc _ h0)
  refine ⟨w.heap.size + 1, [{ target := .collected w.heap.size, args := #[] }], W1, { target := .fn (.func gf) lb, args := #[.func (.yield (w.heap.size + 1)) #[] #[]] }, W1, gf,
    #[.func (.yield (w.heap.size + 1)) #[] #[]] ++ lb, W1, ?_, ?_, ?_, ?_, fun _ => h1, ?_⟩
  · rw [← hW1, hrec]; exact run_enterLoop_outer _ _ _ _ _
  · simp only [resolve, hg]
    simp [go_sem]
  · intro f' hf'; simp [Target.leads] at hf'; subst hf'; exact hFg
  · simp [invoke, go_sem, eg]
  · refine (hseq (w.heap.size + 1)
      (fun pre W => I pre W ∧ W.heap[w.heap.size + 1]? = some (.loop (rec .ready none)) ∧ W.heap[w.heap.size]? = some (.deferred (some [])))
      (fun pre W => ∃ c, Ix c pre W ∧ W.heap[w.heap.size + 1]? = some (.loop (rec .done (some c))) ∧ W.heap[w.heap.size]? = some (.deferred (some [])))
      W1 hb1 ?_ ?_ ⟨hI1, hL1, hK1⟩).mono ?_
    · rintro s W W' row ⟨hs, hl, hk⟩ hgr hrow
      refine ⟨hI s W W' row hs hgr fun r e => ?_, ?_, ?_⟩
      · obtain ⟨k1, o, k2, k3⟩ := hrow r e
        exact ⟨by omega, o, k2, walk_not_cells k3⟩
      · exact (hgr.block _ (Array.getElem?_eq_some_iff.1 hl).1 fun e => by have := (hrow _ e.symm).1; omega).trans hl
      · exact (hgr.block _ (Array.getElem?_eq_some_iff.1 hk).1 fun e => by have := (hrow _ e.symm).1; omega).trans hk
    · rintro pre x W ⟨hi, hl, hk⟩ hgd
      have hlt : w.heap.size + 1 < W.heap.size := (Array.getElem?_eq_some_iff.1 hl).1
      have hy := run_yield (P := P) (args := encs x) hl (by rw [hrec]; exact hps x)
      rw [hrec] at hy
      refine ⟨fn, _, assign, body, hy, roundIn_of_wpIn hfn (hassign _ pre x W _ (by omega) hi hgd fun a' Wa hka hkpa hax => ?_)⟩
      have hla : Wa.heap[w.heap.size + 1]? = some (.loop (rec .ready none)) := hka.same _ _ (by omega) hl rfl
      have hkk : Wa.heap[w.heap.size]? = some (.deferred (some [])) := hka.same _ _ (Nat.le_refl _) hk rfl
      have hlta : w.heap.size + 1 < Wa.heap.size := (Array.getElem?_eq_some_iff.1 hla).1
      refine ⟨_, run_beginRound hla (by rw [hrec]), ?_⟩
      have hl2 : (Wa.putObj (w.heap.size + 1) (.loop { rec .ready none with state := .busy })).heap[w.heap.size + 1]? = some (.loop { rec .ready none with state := .busy }) := World.putObj_heap_same hlta
      have hk2 : (Wa.putObj (w.heap.size + 1) (.loop { rec .ready none with state := .busy })).heap[w.heap.size]? = some (.deferred (some [])) := (World.putObj_heap_other (by omega)).trans hkk
      have hw2 : Kp W (Wa.putObj (w.heap.size + 1) (.loop { rec .ready none with state := .busy })) := hKt hkpa (hKb _ _ _ (by omega) ⟨_, hla⟩)
      have hax2 : Ax pre x a' (Wa.putObj (w.heap.size + 1) (.loop { rec .ready none with state := .busy })) := (hAx pre x a').putObj (s := ()) _ hax (by omega) hla rfl
      refine wpIn_mono (hbody _ pre x a' _ (Nat.lt_of_succ_lt (Array.getElem?_eq_some_iff.1 hl2).1) hax2) ?_
      have fin : ∀ (jump : Option Code) (W3 : World), KeepsFrom w.heap.size (Wa.putObj (w.heap.size + 1) (.loop { rec .ready none with state := .busy })) W3 →
          (Instr.endRound (w.heap.size + 1) jump).run P W3 = .ok (.bool jump.isNone) (W3.putObj (w.heap.size + 1) (.loop (rec (if jump.isNone then .ready else .done) jump))) ∧
          (W3.putObj (w.heap.size + 1) (.loop (rec (if jump.isNone then .ready else .done) jump))).heap[w.heap.size + 1]? = some (.loop (rec (if jump.isNone then .ready else .done) jump)) ∧
          (W3.putObj (w.heap.size + 1) (.loop (rec (if jump.isNone then .ready else .done) jump))).heap[w.heap.size]? = some (.deferred (some [])) ∧
          W3.heap[w.heap.size + 1]? = some (.loop { rec .ready none with state := .busy }) := fun jump W3 hk3 => by
        have hl3 := hk3.same _ _ (by omega) hl2 rfl
        have := run_endRound (P := P) jump hl3
        rw [hrec] at this ⊢
        exact ⟨this, World.putObj_heap_same (Array.getElem?_eq_some_iff.1 hl3).1, (World.putObj_heap_other (by omega)).trans (hk3.same _ _ (Nat.le_refl _) hk2 rfl), by rw [hrec] at hl3; exact hl3⟩
      rintro e a3 W3 hp
      cases e with
      | normal =>
        obtain ⟨hk3, hkp3, hi3⟩ := hp
        obtain ⟨hr, hl4, hk4, hb4⟩ := fin none W3 hk3
        exact ⟨_, _, hr, .inl ⟨rfl, ⟨hI.putObj _ hi3 (by omega) hb4 rfl, hl4, hk4⟩, hKt (hKt hw2 hkp3) (hKb _ _ _ (by omega) ⟨_, hb4⟩)⟩⟩
      | ret =>
        obtain ⟨hk3, hi3⟩ := hp
        obtain ⟨hr, hl4, hk4, hb4⟩ := fin (some .ret) W3 hk3
        exact ⟨_, _, hr, .inr ⟨rfl, .ret, (hIx _).putObj _ hi3 (by omega) hb4 rfl, hl4, hk4⟩⟩
      | exit id =>
        obtain ⟨hk3, hi3⟩ := hp
        obtain ⟨hr, hl4, hk4, hb4⟩ := fin (some (.exit id)) W3 hk3
        exact ⟨_, _, hr, .inr ⟨rfl, .exit id, (hIx _).putObj _ hi3 (by omega) hb4 rfl, hl4, hk4⟩⟩
      | goto t =>
        obtain ⟨hk3, hi3⟩ := hp
        obtain ⟨hr, hl4, hk4, hb4⟩ := fin (some (.goto t)) W3 hk3
        exact ⟨_, _, hr, .inr ⟨rfl, .goto t, (hIx _).putObj _ hi3 (by omega) hb4 rfl, hl4, hk4⟩⟩
      | panic ch => exact hp.elim
      | outgrown => exact hp.elim
    · rintro e W2 ⟨⟨v, rfl⟩, (⟨xs, hS, hi, hl, hk⟩ | ⟨pre, hSp, c, hi, hl, hk⟩)⟩
      · exact ⟨none, _, by have := run_endLoop (P := P) hl (by rw [hrec]; simp); rw [hrec] at this; exact this, hdone xs _ hS (hI.putObj _ hi (by omega) hl rfl) ((World.putObj_heap_other (by omega)).trans hk)⟩
      · exact ⟨some c, _, by have := run_endLoop (P := P) hl (by rw [hrec]; simp); rw [hrec] at this; exact this, hstop c pre _ hSp ((hIx _).putObj _ hi (by omega) hl rfl) ((World.putObj_heap_other (by omega)).trans hk)⟩

end Go.Proofs.Ytjehjjpdicimhaa

/-
  slices.Compact at keys, whatever their number.
-/
namespace Go.Proofs.Ytjehjjpdicimhaa.Z
open Go.RowKit Go.Lib

theorem toArray_get! (d : List (ByteArray × ByteArray)) (i : Nat) (h : i < d.length) : d.toArray[i]! = d[i] := by
  rw [getElem!_pos d.toArray i (by simpa using h)]; simp

theorem zown_at {w : World} {base g n cap : Nat} {dk : Array (ByteArray × ByteArray)} (h : Own w base (.slice (some ⟨g, 0, none⟩) n cap) dk.toList) (i : Nat) (hi : i < dk.size) :
    w.cell? ⟨g, i * 2, none⟩ = some (.string dk[i]!.1) ∧ w.cell? ⟨g, i * 2 + 1, none⟩ = some (.string dk[i]!.2) ∧ w.frozen? ⟨g, i * 2, none⟩ = false ∧ w.frozen? ⟨g, i * 2 + 1, none⟩ = false := by
  obtain ⟨rfl, hk⟩ := h.keysAt
  have := hk i (by simpa using hi)
  rw [Nat.zero_add] at this
  have e : dk.toList[i]'(by simpa using hi) = dk[i]! := by rw [getElem!_pos dk i hi]; simp
  rw [e] at this
  exact ⟨this.1, this.2, World.ownsRow.frozenAt h _, World.ownsRow.frozenAt h _⟩

theorem zown_frozen {w : World} {base g n cap : Nat} {d : List (ByteArray × ByteArray)} (h : Own w base (.slice (some ⟨g, 0, none⟩) n cap) d) (j : Nat) : w.frozen? ⟨g, j, none⟩ = false := by
  obtain ⟨rfl, _⟩ := h.keysAt
  exact World.ownsRow.frozenAt h j
theorem zown_some {w : World} {base g n cap : Nat} {d : List (ByteArray × ByteArray)} (h : Own w base (.slice (some ⟨g, 0, none⟩) n cap) d) (j : Nat) (hj : j < d.length * 2) : (w.cell? ⟨g, j, none⟩).isSome = true := by
  obtain ⟨rfl, _⟩ := h.keysAt
  rw [World.ownsRow.cellAt h j hj, List.getElem?_eq_getElem (by rw [cellsL_length]; exact hj)]
  rfl

theorem zown_store {w : World} {base g n cap : Nat} {dk : Array (ByteArray × ByteArray)} (h : Own w base (.slice (some ⟨g, 0, none⟩) n cap) dk.toList) (i : Nat) (hi : i < dk.size) (a b : ByteArray) :
    Own ((w.setCell ⟨g, i * 2, none⟩ (.string a)).setCell ⟨g, i * 2 + 1, none⟩ (.string b)) base (.slice (some ⟨g, 0, none⟩) n cap) (dk.setIfInBounds i (a, b)).toList := by
  obtain ⟨rfl, _⟩ := h.keysAt
  have h1 := (World.ownsRow.stored h (i * 2) (.string a)).1
  have h2 := (World.ownsRow.stored h1 (i * 2 + 1) (.string b)).1
  rw [cellsL_set _ _ _ _ (by simpa using hi)] at h2
  unfold Own
  simpa using h2

theorem zown_cut {w : World} {base g n cap : Nat} {xs : List Value} (h : w.ownsRow base 27 2 (.slice (some ⟨g, 0, none⟩) n cap) n xs) (k : Nat) (hk : k ≤ n) :
    w.ownsRow base 27 2 (.slice (some ⟨g, 0, none⟩) k cap) k (xs.take (k * 2)) := by
  obtain ⟨hl, h' | ⟨g', cap', cur, h', hb, hg, hnc, hcm, hcs, ht⟩⟩ := h
  · simp at h'
  · simp only [Value.slice.injEq, Option.some.injEq, Addr.mk.injEq, and_true, true_and] at h'
    obtain ⟨rfl, rfl⟩ := h'
    refine ⟨by rw [List.length_take, hl]; omega, .inr ⟨g, cap, cur, rfl, hb, hg, by omega, hcm, hcs, ?_⟩⟩
    rw [← ht, List.take_take, Nat.min_eq_left (by omega)]

theorem zown_setCells {base g k cap : Nat} {xs : List Value} : ∀ (vs : List Value) (o : Nat) (w : World), k * 2 ≤ o → w.ownsRow base 27 2 (.slice (some ⟨g, 0, none⟩) k cap) k xs →
    (w.setCells g o vs).ownsRow base 27 2 (.slice (some ⟨g, 0, none⟩) k cap) k xs
  | [], _, _, _, h => h
  | v :: vs, o, w, ho, h => by
    unfold World.setCells
    refine zown_setCells vs (o + 1) _ (by omega) ?_
    have := (World.ownsRow.stored h o v).1
    rwa [List.set_eq_of_length_le (by rw [h.1]; omega)] at this

theorem comp_done {d : List (ByteArray × ByteArray)} {kk : Nat} {dk : Array (ByteArray × ByteArray)} (hI : CompInv d.toArray d.length kk dk) : compact d = dk.toList.take kk := by
  have hs : dk.size = d.length := by simpa using hI.size
  have hlt := hI.lt
  unfold compact
  apply List.ext_getElem?
  intro j
  by_cases hj : j < kk
  · rw [hI.low j hj, List.getElem?_take_of_lt hj, List.getElem?_eq_getElem (by simp; omega), getElem!_pos dk j (by omega)]
    simp
  · rw [List.getElem?_eq_none (by rw [hI.len]; omega), List.getElem?_eq_none (by rw [List.length_take]; omega)]

end Go.Proofs.Ytjehjjpdicimhaa.Z

/-
  Lists of keys that rise: one for each set of keys.
-/
namespace Go.Proofs.Ytjehjjpdicimhaa.Z
open Go.Lib Go.Sort

/-- x stands ahead of y. -/
def ahead (x y : ByteArray × ByteArray) : Prop := cmpK x y < 0

theorem ahead_iff (x y : ByteArray × ByteArray) : ltOf cmpK x y = true ↔ ahead x y := by
  unfold ltOf ahead; rw [decide_eq_true_iff]
theorem ahead_irrefl (x : ByteArray × ByteArray) : ¬ ahead x x := by
  unfold ahead cmpK; rw [cmpI_eq, (cmpL_zero _ _ _ _).2 ⟨rfl, rfl⟩]; omega
theorem ahead_trans {x y z : ByteArray × ByteArray} (h1 : ahead x y) (h2 : ahead y z) : ahead x z := cmpL_lt_trans _ _ _ _ _ _ h1 h2
theorem ahead_total (x y : ByteArray × ByteArray) : ahead x y ∨ x = y ∨ ahead y x := by
  have hn : cmpK y x = - cmpK x y := cmpL_neg _ _ _ _
  have hr : cmpK x y = -1 ∨ cmpK x y = 0 ∨ cmpK x y = 1 := cmpL_range _ _ _ _
  rcases hr with h | h | h
  · left; unfold ahead; omega
  · right; left
    obtain ⟨h1, h2⟩ := (cmpL_zero _ _ _ _).1 h
    obtain ⟨⟨⟨a⟩⟩, ⟨⟨b⟩⟩⟩ := x
    obtain ⟨⟨⟨c⟩⟩, ⟨⟨d⟩⟩⟩ := y
    simp at h1 h2
    rw [h1, h2]
  · right; right; unfold ahead; omega

def Rises (r : List (ByteArray × ByteArray)) : Prop := r.Pairwise ahead

theorem rises_uniq {r s : List (ByteArray × ByteArray)} (hr : Rises r) (hs : Rises s) (h : ∀ x, x ∈ r ↔ x ∈ s) : r = s := by
  induction r generalizing s with
  | nil =>
    cases s with
    | nil => rfl
    | cons y s => exact absurd ((h y).2 (List.mem_cons_self ..)) (by simp)
  | cons x r ih =>
    cases s with
    | nil => exact absurd ((h x).1 (List.mem_cons_self ..)) (by simp)
    | cons y s =>
      obtain ⟨hx, hr'⟩ := List.pairwise_cons.1 hr
      obtain ⟨hy, hs'⟩ := List.pairwise_cons.1 hs
      have hxy : x = y := by
        rcases List.mem_cons.1 ((h x).1 (List.mem_cons_self ..)) with e | e
        · exact e
        · rcases List.mem_cons.1 ((h y).2 (List.mem_cons_self ..)) with e' | e'
          · exact e'.symm
          · exact absurd (ahead_trans (hx y e') (hy x e)) (ahead_irrefl x)
      subst hxy
      rw [ih hr' hs' fun z => ?_]
      constructor
      · intro hz
        rcases List.mem_cons.1 ((h z).1 (List.mem_cons_of_mem _ hz)) with e | e
        · exact absurd (hx z hz) (by rw [e]; exact ahead_irrefl _)
        · exact e
      · intro hz
        rcases List.mem_cons.1 ((h z).2 (List.mem_cons_of_mem _ hz)) with e | e
        · exact absurd (hy z hz) (by rw [e]; exact ahead_irrefl _)
        · exact e

theorem compact_rises (d : Array (ByteArray × ByteArray)) (n : Nat) (hs : SortedIn (ltOf cmpK) 0 n d) : ∀ m, m ≤ n →
    Rises (compactUpTo d m) ∧ (∀ x, x ∈ compactUpTo d m → ∃ j, j < m ∧ x = d[j]!) ∧ (∀ j, j < m → d[j]! ∈ compactUpTo d m) := by
  intro m
  induction m with
  | zero => intro _; exact ⟨List.Pairwise.nil, fun x hx => by simp [compactUpTo] at hx, fun j hj => by omega⟩
  | succ m ih =>
    intro hm
    obtain ⟨h1, h2, h3⟩ := ih (by omega)
    rw [compactUpTo_succ]
    have notlt : ∀ i, i < m → ahead d[i]! d[m]! ∨ d[i]! = d[m]! := by
      intro i hi
      have := hs i m (Nat.zero_le _) hi (by omega)
      rcases ahead_total d[i]! d[m]! with h | h | h
      · exact .inl h
      · exact .inr h
      · rw [(ahead_iff _ _).2 h] at this; cases this
    by_cases hk : keeps d m = true
    · rw [if_pos hk]
      refine ⟨?_, ?_, ?_⟩
      · refine List.pairwise_append.2 ⟨h1, List.pairwise_singleton _ _, fun x hx y hy => ?_⟩
        rw [List.mem_singleton] at hy
        subst hy
        obtain ⟨j, hj, rfl⟩ := h2 x hx
        have hne : d[m]! ≠ d[m - 1]! := by
          have : m = 0 ∨ d[m]! ≠ d[m - 1]! := by simpa [keeps] using hk
          rcases this with h | h
          · omega
          · exact h
        have hlast : ahead d[m - 1]! d[m]! := by
          rcases notlt (m - 1) (by omega) with h | h
          · exact h
          · exact absurd h.symm hne
        by_cases hjm : j = m - 1
        · rw [hjm]; exact hlast
        · have := hs j (m - 1) (Nat.zero_le _) (by omega) (by omega)
          rcases ahead_total d[j]! d[m - 1]! with h | h | h
          · exact ahead_trans h hlast
          · rw [h]; exact hlast
          · rw [(ahead_iff _ _).2 h] at this; cases this
      · intro x hx
        rcases List.mem_append.1 hx with h | h
        · obtain ⟨j, hj, e⟩ := h2 x h
          exact ⟨j, by omega, e⟩
        · exact ⟨m, by omega, List.mem_singleton.1 h⟩
      · intro j hj
        by_cases hjm : j = m
        · subst hjm; exact List.mem_append_right _ (List.mem_singleton.2 rfl)
        · exact List.mem_append_left _ (h3 j (by omega))
    · have hk' : keeps d m = false := by simpa using hk
      rw [if_neg hk, List.append_nil]
      refine ⟨h1, fun x hx => ?_, fun j hj => ?_⟩
      · obtain ⟨j, hj, e⟩ := h2 x hx
        exact ⟨j, by omega, e⟩
      · by_cases hjm : j = m
        · subst hjm
          have : j ≠ 0 ∧ d[j]! = d[j - 1]! := by simpa [keeps] using hk'
          rw [this.2]
          exact h3 (j - 1) (by have := this.1; omega)
        · exact h3 j (by omega)

/-- What sorting and compacting makes of a list: it rises, and holds the same keys. -/
theorem sorted_compact (l : List (ByteArray × ByteArray)) (d : Array (ByteArray × ByteArray)) (hp : PermIn 0 l.length l.toArray d) (hs : SortedIn (ltOf cmpK) 0 l.length d) :
    Rises (compact d.toList) ∧ (∀ x, x ∈ compact d.toList ↔ x ∈ l) ∧ d.size = l.length := by
  obtain ⟨h1, _, h3⟩ := hp
  have hsz : d.size = l.length := by simpa using h1
  have hperm : d.toList.Perm l := by
    have e1 : (d.extract 0 l.length).toList = d.toList := by rw [← hsz]; simp
    have e2 : (l.toArray.extract 0 l.length).toList = l := by simp
    rw [e1, e2] at h3
    exact h3
  have hd : d.toList.toArray = d := by simp
  obtain ⟨r1, r2, r3⟩ := compact_rises d l.length hs l.length (Nat.le_refl _)
  have e : compact d.toList = compactUpTo d l.length := by
    unfold compact
    rw [hd, Array.length_toList, hsz]
  rw [e]
  refine ⟨r1, fun x => ?_, hsz⟩
  rw [← hperm.mem_iff]
  constructor
  · intro hx
    obtain ⟨j, hj, rfl⟩ := r2 x hx
    rw [getElem!_pos d j (by omega)]
    exact Array.getElem_mem_toList ..
  · intro hx
    obtain ⟨j, hj, rfl⟩ := List.mem_iff_getElem.1 hx
    have hj' : j < d.size := by simpa using hj
    have := r3 j (by omega)
    rw [getElem!_pos d j hj'] at this
    simpa using this

end Go.Proofs.Ytjehjjpdicimhaa.Z

/-
  The contract of Sort of package name, whatever the number of keys.
-/
namespace Go.Proofs.Ytjehjjpdicimhaa.Z
open Go.RowKit Go.Sort Go.Lib

theorem size_putCells (enc : Value → Value) (off : Nat) (d c : Array Value) : (putCells enc off d c).size = c.size := by
  unfold putCells; simp

theorem zown_sorted {w1 : World} {base g cap n : Nat} {cur : Array Value} {os : Array Obj} (d d' : Array (ByteArray × ByteArray)) (hb : base ≤ g) (hg : g < w1.heap.size) (hheap : w1.heap[g]? = some (.cells cur 27 (0, 0)))
    (hcap : d.size ≤ cap) (hm : cap ≤ maxLen) (hsz : cur.size = cap * 2) (hH : HoldsK encKey 2 w1 g 0 d) (hd : d'.size = d.size) :
    Own (sortWorldK encKey 2 w1 g 0 n d' os) base (.slice (some ⟨g, 0, none⟩) d'.size cap) d'.toList := by
  have hH2 : HoldsK encKey 2 (sortWorldK encKey 2 w1 g 0 n d' os) g 0 d' :=
    holdsK_grow encKey 2 _ os g 0 _ (by simpa [putRowK] using hg) (holdsK_putRowK encKey 2 (Sort.ahead w1 n) g 0 _ _ (holdsK_ahead encKey 2 w1 n g 0 _ hH) hd)
  have hh : (sortWorldK encKey 2 w1 g 0 n d' os).heap[g]? = some (.cells (putCells id 0 (flatK encKey 2 d') cur) 27 (0, 0)) := by
    simp only [sortWorldK, grow, putRowK, putRow, mapBlock, Sort.ahead]
    rw [Array.getElem?_append_left (by simpa using hg), Array.getElem?_modify, if_pos rfl, hheap]
    rfl
  refine ⟨cellsL_length _, .inr ⟨g, cap, _, by simp, hb, hh, by simp; omega, hm, by rw [size_putCells, hsz], ?_⟩⟩
  apply List.ext_getElem?
  intro j
  by_cases hj : j < d'.size * 2
  · rw [List.getElem?_take_of_lt (by simpa using hj)]
    have h1 := (hH2 j (by simpa using hj)).1
    simp only [World.cell?, hh, Nat.zero_add] at h1
    rw [get_flatK _ _ _ _ hj] at h1
    have h2 := flat_get d'.toList j (by simpa using hj)
    have he : d'.toList[j / 2]! = d'[j / 2]! := by
      rw [getElem!_pos d' (j / 2) (by omega), getElem!_pos d'.toList (j / 2) (by simp; omega)]; simp
    rw [he] at h2
    have h3 : (putCells id 0 (flatK encKey 2 d') cur)[j]? = some (encKey d'[j / 2]!)[j % 2]! := h1
    rw [Array.getElem?_toList, h3]
    exact h2.symm
  · rw [List.getElem?_eq_none (by rw [List.length_take]; simp; omega), List.getElem?_eq_none (by rw [cellsL_length]; simp; omega)]

end Go.Proofs.Ytjehjjpdicimhaa.Z

/-
  The contract of Sort of package name.
-/
namespace Go.Proofs.Ytjehjjpdicimhaa
open Go.RowKit

theorem z_own {n0 : Nat} {w : World} {v : Value} {d : List Ky} : Z.Own w n0 v d ↔ KK.Own n0 w v d := Iff.rfl
theorem z_at {w : World} {b off : Nat} {d : List Ky} (h : KK.At w b off d) : Z.KeysAt w b off d := fun i hi => kk_at h i hi

theorem z_lt (x y : Ky) : Z.ahead x y ↔ ltKy x y = true := by
  unfold Z.ahead Z.cmpK Z.cmpI Z.orI
  rw [ltKy_true]
  unfold ltB
  rw [decide_eq_true_iff, decide_eq_true_iff]
  by_cases h : Lib.compareBytes x.1.data.toList y.1.data.toList = 0
  · rw [if_pos h]
    have e : x.1 = y.1 := ba_eq ((cb_zero _ _).1 h)
    constructor
    · intro k; exact Or.inr ⟨e, k⟩
    · rintro (k | ⟨_, k⟩)
      · omega
      · exact k
  · rw [if_neg h]
    constructor
    · intro k; exact Or.inl k
    · rintro (k | ⟨e, _⟩)
      · exact k
      · rw [e, cb_self] at h; exact absurd rfl h

theorem z_rises {r : List Ky} (h : Z.Rises r) : RisingR ltKy r := h.imp fun {x y} hxy => (z_lt x y).1 hxy
theorem z_rises' {r : List Ky} (h : RisingR ltKy r) : Z.Rises r := h.imp fun {x y} hxy => (z_lt x y).2 hxy

/-- The keys, rising, each once. -/
def sortK (ks : List Ky) : List Ky := ks.foldl (fun acc x => insR ltKy x acc) []
theorem sortK_spec (ks : List Ky) : RisingR ltKy (sortK ks) ∧ ∀ z, z ∈ sortK ks ↔ z ∈ ks := by
  have : ∀ (l acc : List Ky), RisingR ltKy acc → RisingR ltKy (l.foldl (fun acc x => insR ltKy x acc) acc) ∧ ∀ z, z ∈ l.foldl (fun acc x => insR ltKy x acc) acc ↔ z ∈ acc ∨ z ∈ l := by
    intro l
    induction l with
    | nil => intro acc h; exact ⟨h, fun z => by simp⟩
    | cons y l ih =>
      intro acc h
      obtain ⟨h1, h2⟩ := ih (insR ltKy y acc) (rising_insR totK y h)
      refine ⟨h1, fun z => ?_⟩
      rw [List.foldl_cons, h2, mem_insR, List.mem_cons]
      constructor
      · rintro ((h | h) | h)
        · exact Or.inr (Or.inl h)
        · exact Or.inl h
        · exact Or.inr (Or.inr h)
      · rintro (h | h | h)
        · exact Or.inl (Or.inr h)
        · exact Or.inl (Or.inl h)
        · exact Or.inr h
  obtain ⟨h1, h2⟩ := this ks [] List.Pairwise.nil
  exact ⟨h1, fun z => by rw [sortK, h2]; simp⟩

set_option maxHeartbeats 1000000 in
theorem sortfunc_nil (W : World) : Calls Try.prog 37 #[.slice none 0 0, .func (.func 25) #[] #[]] W fun e w' => e = .returned (.tuple #[]) ∧ w' = W := by
  have hi : ∀ W, Calls Try.prog 63 #[.slice none 0 0, .int .i64 0, .int .i64 0, .func (.func 25) #[] #[]] W fun e w' => e = .returned (.tuple #[]) ∧ w' = W := fun W => by
    go_enter Try.func63, Try.ntmps63
    go_wp2_with fail
    refine wp_loop_rounds 1 ?_
    rw [rounds_succ]
    go_wp2_with fail
    go_end0
    exact ⟨rfl, rfl⟩
  have HI := hid hi
  clear hi
  have hp : ∀ (l : Int) W, Calls Try.prog 52 #[.slice none 0 0, .int .i64 0, .int .i64 0, .int .i64 l, .func (.func 25) #[] #[]] W fun e w' => e = .returned (.tuple #[]) ∧ w' = W := fun l W => by
    go_enter Try.func52, Try.ntmps52
    go_wp2_with fail
    refine wp_loop_rounds 1 ?_
    rw [rounds_succ]
    go_wp2_with (first | (go_at_call 63; refine (HI.out _).mono ?_; rintro e w1 ⟨rfl, rfl⟩))
    refine bodyPost_ret (results_none (h := Try.results52) _ _ _) rfl ?_
    exact ⟨rfl, rfl⟩
  have HP := hid hp
  clear hp
  go_enter Try.func37, Try.ntmps37
  go_wp2_with (first | (go_at_call 53; refine (Try.bits_Len 0 _ (by omega) (by omega)).mono ?_; rintro e w1 ⟨rfl, rfl⟩) | (go_at_call 52; refine (HP.out _ _).mono ?_; rintro e w1 ⟨rfl, rfl⟩))
  go_end0
  exact ⟨rfl, rfl⟩

end Go.Proofs.Ytjehjjpdicimhaa

/-
  All keys of the program's set of writes, sorted (stage 11): maps.Keys, slices.Collect and SortedFunc at its map.
-/
namespace Go.Proofs.Ytjehjjpdicimhaa
open Go.RowKit Go.Maps Go.Sort
attribute [local go_sem] Oper.semAt_some

section
variable {κ ε : Type} {T : MKind κ ε} {F : Fence} {nf : Nat} (w : World) {ops : Array Oper} {rest : List Oper} {o : Oper} {a : Act} {Q : Exit → Act → World → Prop}

set_option maxRecDepth 100000 in
theorem wpIn_range_G (hg : o.guard = none) (mo : Operand) (hop : o.op = Op.range T.M mo) (m n : Nat) (f : κ → Option ε) (c : Nat) (hm : a.eval mo = .map (some m)) (h : MapG T w m n f c)
    (hK : ∀ w', RangeG T w' m w.heap.size n f c [] c → w.grownBy w' none → w'.heap.size = w.heap.size + 1 → wpListIn F nf Try.prog ops Q rest (a.put o.dst (.pointer (some ⟨w.heap.size, 0, none⟩))) w') :
    wpListIn F nf Try.prog ops Q (o :: rest) a w := by
  obtain ⟨D, hD, hf, hh, hc⟩ := h
  refine wpListIn_range_own w hg mo _ hop _ _ T.keyed T.und T.read m n D hm hD fun w' h1 h2 h3 => hK w' ?_ h2 h3
  rw [hc] at h1
  exact ⟨D, _, h1, hf, hh, hc, fun k hk => by rw [hh k hk]; simp, List.nodup_nil, fun k hk => by simp at hk, by simp⟩

set_option maxRecDepth 100000 in
theorem wpIn_next_G (hg : o.guard = none) (it : Operand) (hop : o.op = Op.next it false) (m r n : Nat) (f : κ → Option ε) (c : Nat) (seen : List κ) (cnt : Nat) (hit : a.eval it = .pointer (some ⟨r, 0, none⟩)) (h : RangeG T w m r n f c seen cnt)
    (hDone : (∀ k, T.fit k → (f k).isSome = true → k ∈ seen) → wpListIn F nf Try.prog ops Q rest (a.put o.dst (.tuple #[.bool false])) w)
    (hMore : ∀ (k : κ) (e : ε) (w' : World) (cnt' : Nat), T.fit k → k ∉ seen → f k = some e → RangeG T w' m r n f c (seen ++ [k]) cnt' → cnt' < cnt → w.grownBy w' (some r) → w'.heap.size = w.heap.size →
      (Instr.entry (.pointer (some ⟨r, 0, none⟩))).run Try.prog w' = .ok (.tuple #[T.key k, T.val e]) w' → wpListIn F nf Try.prog ops Q rest (a.put o.dst (.tuple #[.bool true, T.key k, T.val e])) w') :
    wpListIn F nf Try.prog ops Q (o :: rest) a w := by
  obtain ⟨D, left, h1, h2, h3, hc, h4, h5, h6, h7⟩ := h
  refine wpListIn_next_ranges w hg it hop _ T.keyed T.read T.key T.val T.key_inv T.read_inv m r n D left cnt hit h1 (fun _ hl => hDone fun k hk hs => ?_) fun x e kl y w' cnt' hkey hlk hR hat hr hlt hg' hsz hen => ?_
  · refine Classical.byContradiction fun hn => ?_
    have := (h4 k hk).2 ⟨hs, hn⟩
    rw [hl] at this
    cases this
  · obtain ⟨hx, rfl⟩ := T.key_fit _ _ hkey
    have hb : (f x).isSome = true ∧ x ∉ seen := (h4 x hx).1 hlk
    obtain ⟨e', he'⟩ := Option.isSome_iff_exists.1 hb.1
    have hee : e = e' := by
      rw [T.read_mk] at hR
      injection hR with hR
      have := hat (T.enc T.zero)
      rw [← hR, h2 x hx, he'] at this
      exact (T.enc_inj _ _ this).symm
    subst hee
    refine hMore x e w' cnt' hx hb.2 he' ⟨D, _, hr, h2, h3, hc, fun k hk => ?_, ?_, fun k hk => ?_, by rw [List.length_append, List.length_singleton]; omega⟩ hlt hg' hsz hen
    · show (left (T.lit k) && !(T.lit k).sameKey (T.lit x)) = true ↔ _
      rw [Bool.and_eq_true, h4 k hk]
      by_cases e1 : k = x
      · subst e1
        rw [WideAt.sameKey_self (T.keyed.key (T.key_is k hk))]
        simp
      · rw [sameKey_ne (fun h => e1 (T.lit_inj _ _ hk hx h))]
        simp [e1]
    · exact List.nodup_append.2 ⟨h5, by simp, fun a ha b hb' => by
        rw [List.mem_singleton] at hb'
        rintro rfl
        rw [hb'] at ha
        exact hb.2 ha⟩
    · rcases List.mem_append.1 hk with hk | hk
      · exact h6 k hk
      · rw [List.mem_singleton] at hk
        subst hk
        exact ⟨hx, hb.1⟩
end

/-! ## What stays -/

theorem fr_rowG {W W' : World} {row : Option Nat} (hg : W.grownBy W' row) : Fr (fun b => row = some b) W W' := Fr.of_grown hg fun _ h => h
theorem grown_ofG {w w' : World} (h : Below w.heap.size w w') : w.grownBy w' none := ⟨h.os, h.tape, h.output, h.size, fun i hi _ => h.block i hi⟩
theorem own_ncG {α : Type} {K : Kind α} {N : Nat} {W W' : World} {v : Value} {d : List α} {row : Option Nat} (h : K.Own N W v d) (hg : W.grownBy W' row) (hr : ∀ r, row = some r → ∃ ob : Obj, W.heap[r]? = some ob ∧ ob.isCells = false) : K.Own N W' v d :=
  (fr_rowG hg).row h fun k hk e => by
    obtain ⟨cs, h1⟩ := own_type h hk
    obtain ⟨ob, h2, h3⟩ := hr k e
    rw [h1] at h2
    injection h2 with h2
    rw [← h2] at h3
    cases h3
theorem cells_ncG {W W' : World} {b : Nat} {cs : Array Value} {t : TypeId} {fz : Nat × Nat} {row : Option Nat} (h : W.heap[b]? = some (.cells cs t fz)) (hg : W.grownBy W' row) (hr : ∀ r, row = some r → ∃ ob : Obj, W.heap[r]? = some ob ∧ ob.isCells = false) : W'.heap[b]? = some (.cells cs t fz) :=
  (hg.block b (Array.getElem?_eq_some_iff.1 h).1 fun e => by
    obtain ⟨ob, h2, h3⟩ := hr b e.symm
    rw [h] at h2
    injection h2 with h2
    rw [← h2] at h3
    cases h3).trans h
theorem keeps_ofG {B : Nat} {P : Nat → Prop} {W W' : World} (f : Fr P W W') (h : ∀ b, B ≤ b → P b → ∃ cs t fz, W.heap[b]? = some (.cells cs t fz)) : KeepsFrom B W W' :=
  ⟨f.size, fun k o hk ho hc => by
    by_cases hp : P k
    · obtain ⟨cs, t, fz, hh⟩ := h k hk hp
      rw [hh] at ho
      injection ho with ho
      rw [← ho] at hc
      cases hc
    · exact (f.block k (Array.getElem?_eq_some_iff.1 ho).1 hp).trans ho⟩
theorem Try.infoKg : (Try.prog.info? 27).map (fun i => (i.zero, i.size, i.bytes)) = some (some (.agg #[.string ⟨#[]⟩, .string ⟨#[]⟩]), 2, 32) := by kernel_rfl

/-- Maps and their iterators stay. -/
def KpG (W W' : World) : Prop := W.heap.size ≤ W'.heap.size ∧ ∀ (k : Nat) (o : Obj), W.heap[k]? = some o → o.isWalk = true → W'.heap[k]? = some o
theorem kpG_trans {X Y Z : World} (h : KpG X Y) (k : KpG Y Z) : KpG X Z := ⟨Nat.le_trans h.1 k.1, fun i o hi ho => k.2 i o (h.2 i o hi ho) ho⟩
theorem kpG_put (W : World) (l : Nat) (o : Obj) (h : ∃ r, W.heap[l]? = some (.loop r)) : KpG W (W.putObj l o) := by
  obtain ⟨r, hr⟩ := h
  refine ⟨by simp, fun k ob hk ho => ?_⟩
  by_cases e : k = l
  · subst e
    rw [hr] at hk
    injection hk with hk
    subst hk
    cases ho
  · exact (World.putObj_heap_other e).trans hk
theorem kpG_fr {P : Nat → Prop} {W W' : World} (f : Fr P W W') (h : ∀ b, P b → b < W.heap.size → ∃ cs t fz, W.heap[b]? = some (.cells cs t fz)) : KpG W W' := by
  refine ⟨f.size, fun k o hk ho => ?_⟩
  have hlt := (Array.getElem?_eq_some_iff.1 hk).1
  by_cases hp : P k
  · obtain ⟨cs, t, fz, hc⟩ := h k hp hlt
    rw [hc] at hk
    injection hk with hk
    subst hk
    cases ho
  · exact (f.block k hlt hp).trans hk

def encKg (k : Ky) : Array Value := #[.agg #[.string k.1, .string k.2]]

set_option maxHeartbeats 4000000 in
set_option maxRecDepth 100000 in
theorem wkeys1_in (nn : Nat) (hnn : 1 ≤ nn) (l Bm m n c : Nat) (f : Ky → Option We) (J Jx : List Ky → World → Prop)
    (W : World) (hJ : AbidesFrom W.heap.size J) (hY : ∀ pre x W1, J pre W1 → (FitK x ∧ pre.length < c) → YieldAt Fence.wide (nn - 1) Try.prog l (encKg x) W1 fun e W' =>
      (e = .returned (.bool true) ∧ J (pre ++ [x]) W' ∧ KpG W1 W') ∨ (e = .returned (.bool false) ∧ Jx (pre ++ [x]) W'))
    (hm : W.cell? ⟨Bm, 0, none⟩ = some (.map (some m))) (hM : MapG MW W m n f c) (h0 : J [] W) :
    CallsIn Fence.wide nn Try.prog 38 #[.func (.yield l) #[] #[], .pointer (some ⟨Bm, 0, none⟩)] W fun e W' => (∃ v, e = .returned v) ∧
      ((∃ xs : List Ky, (xs.Nodup ∧ ∀ k, k ∈ xs ↔ FitK k ∧ (f k).isSome = true) ∧ J xs W') ∨ (∃ pre : List Ky, True ∧ Jx pre W')) := by
  have HM := hid hM
  obtain ⟨N, hN⟩ : ∃ N, W.heap.size = N := ⟨_, rfl⟩
  refine callsIn_of_wp Try.func38 rfl trivial ?_ rfl
  simp only [Try.ntmps38, List.size_toArray, List.length_cons, List.length_nil, Nat.reduceAdd, Nat.reduceSub, Array.replicate_succ, Array.replicate_zero, List.push_toArray, List.append_toArray, List.nil_append, List.cons_append]
  gi_wp2_with (first | (gi_at_range; refine wpIn_range_G (T := MW) _ rfl _ rfl m n f c rfl HM.out ?_; intro w0 hr0 hg0 hs0) | gi_in)
  go_frame
  have ST0 : Hid (RangeG MW w0 m N n f c [] c ∧ J [] w0) := ⟨by rw [← hN]; exact hr0, hJ [] W w0 none h0 hg0 (fun r e => by cases e)⟩
  clear hr0 hg0 hs0 HM hM hm
  rw [hN]
  gi_loopw [3] (fun _ wr => ∃ (seen : List Ky) (cnt : Nat), RangeG MW wr m N n f c seen cnt ∧ J seen wr) (fun _ wr => wr.rangeLeft m N)
  case atStart => exact ⟨[], c, ST0.out.1, ST0.out.2⟩
  case round =>
    obtain ⟨seen, cnt, hr, hJs⟩ := hrel
    have hnd := hr.nodup
    gi_wp2_with (first | (gi_at_next; refine wpIn_next_G (T := MW) _ rfl _ rfl m N n f c seen cnt rfl hr ?_ ?_) | gi_in)
    · intro hall
      gi_wp2
      go_end0
      exact ⟨⟨_, rfl⟩, .inl ⟨seen, ⟨hnd.1, fun k => ⟨fun hk => hnd.2.1 k hk, fun hk => hall k.1 k.2 hk.1 hk.2⟩⟩, hJs⟩⟩
    · intro ka kb b w2 cnt2 hkf hks hfb hr2 hlt hg2 hs2 hen
      obtain ⟨si, sn, sc, hit⟩ := hr.iter
      have hJ2 : J seen w2 := hJ seen wr w2 (some N) hJs hg2 (fun r e => by cases e; exact ⟨by omega, _, hit, rfl⟩)
      have hb3 : Below w2.heap.size w2 (w2.alloc (.cells #[.string ka, .string kb] 27)) := (Below.refl _ _).alloc (Nat.le_refl _) _
      have hJ3 : J seen (w2.alloc (.cells #[.string ka, .string kb] 27)) := hJ seen w2 _ none hJ2 (grown_ofG hb3) fun r e => by cases e
      have hr3 := hr2.on (hb3.block _ hr2.map.lt) (hb3.block _ hr2.lt)
      obtain ⟨fn, tmps, assign, body, hy, hR⟩ := hY seen (ka, kb) _ hJ3 ⟨hkf, by have := hr2.nodup.2.2; rw [List.length_append] at this; simp at this; omega⟩
      simp only [encKg] at hy
      have HR3 := hid hr3
      have hle := hr.left_eq
      have HLE := hid hle
      simp only [MW, valK, We.val, We.sl] at hen ⊢
      clear hs2 hr hr2 hr3 hnd hg2 hJ2 hJ3 hJs hfb hkf hks hb3 hle hit
      gi_wp2
      refine hR.mono ?_
      rintro e W3 (⟨rfl, hJ3, hk3⟩ | ⟨rfl, hJx3⟩)
      · obtain ⟨es, cl, hme⟩ := HR3.out.map.obj
        obtain ⟨si, sn, sc, hit⟩ := HR3.out.iter
        have hr4 := HR3.out.on ((hk3.2 m _ hme rfl).trans hme.symm) ((hk3.2 N _ hit rfl).trans hit.symm)
        have HR4 := hid hr4
        have HJ3 := hid hJ3
        clear hr4 hJ3 hk3 hme hit
        gi_wp2
        go_roundw
        case rel => exact ⟨seen ++ [(ka, kb)], cnt2, HR4.out, HJ3.out⟩
        case measure => rw [HR4.out.left_eq, HLE.out]; exact hlt
      · gi_wp2
        refine bodyPost_ret (results_none rfl _ _ _) rfl ?_
        exact ⟨⟨_, rfl⟩, .inr ⟨_, trivial, hJx3⟩⟩

theorem wkeys_seq (nn : Nat) (hnn : 1 ≤ nn) {w : World} {Bm m n c : Nat} {f : Ky → Option We} (hm : w.cell? ⟨Bm, 0, none⟩ = some (.map (some m))) (hM : MapG MW w m n f c) :
    SeqM Fence.wide nn Try.prog 38 #[.pointer (some ⟨Bm, 0, none⟩)] encKg (fun pre x _ => FitK x ∧ pre.length < c) KpG (fun xs => xs.Nodup ∧ ∀ k, k ∈ xs ↔ FitK k ∧ (f k).isSome = true) (fun _ => True) w :=
  fun l J Jx W hW hJ hY h0 => wkeys1_in nn hnn l Bm m n c f J Jx W hJ hY ((hW.cell (p := ⟨Bm, 0, none⟩) (cell_block hm)).trans hm) (hM.on (hW.block m hM.lt)) h0

/-- What a range over a set's keys, or over none, hands out, in all that comes. -/
def SeqK (W0 : World) (Bm : Nat) (f : Ky → Option We) (c : Nat) : Prop := ∀ w, Below W0.heap.size W0 w → SeqM Fence.wide 2 Try.prog 38 #[.pointer (some ⟨Bm, 0, none⟩)] encKg (fun pre x _ => FitK x ∧ pre.length < c) KpG (fun xs => xs.Nodup ∧ ∀ k, k ∈ xs ↔ FitK k ∧ (f k).isSome = true) (fun _ => True) w
theorem SeqK.of {W0 : World} {Bm m n c : Nat} {f : Ky → Option We} (hm : W0.cell? ⟨Bm, 0, none⟩ = some (.map (some m))) (hM : MapG MW W0 m n f c) : SeqK W0 Bm f c := fun _ hb =>
  wkeys_seq (nn := 2) (by decide) ((hb.cell (p := ⟨Bm, 0, none⟩) (cell_block hm)).trans hm) (hM.on (hb.block m hM.lt))

set_option maxHeartbeats 4000000 in
set_option maxRecDepth 100000 in
theorem wkeys1_nil (nn : Nat) (l Bm : Nat) (J : List Ky → World → Prop) (W : World) (hJ : AbidesFrom W.heap.size J) (hm : W.cell? ⟨Bm, 0, none⟩ = some (.map none)) (h0 : J [] W) :
    CallsIn Fence.wide nn Try.prog 38 #[.func (.yield l) #[] #[], .pointer (some ⟨Bm, 0, none⟩)] W fun e W' => (∃ v, e = .returned v) ∧ J [] W' := by
  have hrg := run_range_nilMap (P := Try.prog) W 57 27 63 Try.underlying57
  have hnx : ∀ ty, (Instr.next (.pointer (some ⟨W.heap.size, 0, none⟩)) false ty).run Try.prog (W.alloc (.mapIter none 0 #[] 0)) = _ := fun ty => run_next_nilMap W ty 0 0 #[]
  have HJ1 : Hid (J [] (W.alloc (.mapIter none 0 #[] 0))) := hJ [] W _ none h0 (World.grownBy_alloc W _ none) (fun r e => by cases e)
  clear hJ h0
  refine callsIn_of_wp Try.func38 rfl trivial ?_ rfl
  simp only [Try.ntmps38, List.size_toArray, List.length_cons, List.length_nil, Nat.reduceAdd, Nat.reduceSub, Array.replicate_succ, Array.replicate_zero, List.push_toArray, List.append_toArray, List.nil_append, List.cons_append]
  gi_wp2
  gi_loopw [3] (fun _ wr => wr = W.alloc (.mapIter none 0 #[] 0)) (fun _ wr => 0)
  case atStart => rfl
  case round =>
    obtain rfl := hrel
    gi_wp2
    go_end0
    exact ⟨⟨_, rfl⟩, HJ1.out⟩
theorem SeqK.nil {W0 : World} {Bm : Nat} (hm : W0.cell? ⟨Bm, 0, none⟩ = some (.map none)) : SeqK W0 Bm (fun _ => none) 0 := fun w hb l J Jx W hW hJ _ h0 =>
  (wkeys1_nil 2 l Bm J W hJ ((hW.cell (p := ⟨Bm, 0, none⟩) (Nat.lt_of_lt_of_le (cell_block hm) hb.size)).trans ((hb.cell (p := ⟨Bm, 0, none⟩) (cell_block hm)).trans hm)) h0).mono fun _ _ h => ⟨h.1, Or.inl ⟨[], ⟨List.nodup_nil, fun k => by simp⟩, h.2⟩⟩

/-- Keys under way: in the box Bs lies a list of those that came. -/
structure KsG (Bs : Nat) (w : World) (pre : List Ky) (v : Value) (W : World) : Prop where
  box : W.heap[Bs]? = some (.cells #[v] 40 (0, 0))
  own : KK.Own w.heap.size W v pre
  fr : Fr (fun b => b = Bs) w W
  lt : Bs < w.heap.size

theorem KsG.nc {Bs : Nat} {w : World} {pre : List Ky} {v : Value} {W W' : World} {row : Option Nat} (h : KsG Bs w pre v W) (hg : W.grownBy W' row) (hr : ∀ r, row = some r → w.heap.size ≤ r ∧ ∃ ob : Obj, W.heap[r]? = some ob ∧ ob.isCells = false) : KsG Bs w pre v W' :=
  ⟨cells_ncG h.box hg fun r e => (hr r e).2, own_ncG h.own hg fun r e => (hr r e).2, Fr.then h.fr (fr_rowG hg) fun b hb => Or.inr (hr b hb).1, h.lt⟩

theorem KsG.own_from (Bs : Nat) (w : World) : OwnFrom w.heap.size (fun pre W => ∃ v, KsG Bs w pre v W) := by
  rintro s W W' row ⟨v, h⟩ hg hr
  exact ⟨v, h.nc hg hr⟩

theorem ksG_push {Bs : Nat} {w : World} {pre : List Ky} {v v' : Value} {W W4 w1 : World} {x : Ky} (h : KsG Bs w pre v W) (hb4 : Below W.heap.size W W4) (hg : W4.grownBy w1 v.ownBlock) (ho1 : KK.Own w.heap.size w1 v' (pre ++ [x])) :
    KeepsFrom w.heap.size W (w1.setCell ⟨Bs, 0, none⟩ v') ∧ KpG W (w1.setCell ⟨Bs, 0, none⟩ v') ∧ KsG Bs w (pre ++ [x]) v' (w1.setCell ⟨Bs, 0, none⟩ v') := by
  have hlt := h.lt
  have hfs := h.fr.size
  have hblk : ∀ b, v.ownBlock = some b → w.heap.size ≤ b ∧ ∃ cs, W.heap[b]? = some (.cells cs 27 (0, 0)) := fun b hb => ⟨(World.ownsRow.lt h.own b hb).1, own_type h.own hb⟩
  have fset : Fr (fun b => b = Bs) w1 (w1.setCell ⟨Bs, 0, none⟩ v') := Fr.of_grown (grown_set w1 Bs 0 v') fun k hk => by injection hk with hk; exact hk.symm
  have f41 : Fr (fun b => v.ownBlock = some b) W w1 := Fr.then (Fr.of_below hb4) (fr_rowG hg) fun b hb => Or.inl hb
  have f5 : Fr (fun b => b = Bs ∨ v.ownBlock = some b) W (w1.setCell ⟨Bs, 0, none⟩ v') := Fr.then (f41.mono fun b hb => Or.inr hb) fset fun b hb => Or.inl (Or.inl hb)
  have hbox1 : w1.heap[Bs]? = some (.cells #[v] 40 (0, 0)) := (f41.block Bs (by omega) fun e => by have := (hblk Bs e).1; omega).trans h.box
  have hcell : ∀ b, (b = Bs ∨ v.ownBlock = some b) → ∃ cs t fz, W.heap[b]? = some (.cells cs t fz) := fun b hb => by
    rcases hb with rfl | hb
    · exact ⟨_, _, _, h.box⟩
    · obtain ⟨cs, h1⟩ := (hblk b hb).2
      exact ⟨_, _, _, h1⟩
  refine ⟨keeps_ofG f5 fun b _ e => hcell b e, kpG_fr f5 fun b hb _ => hcell b hb, heap_setCell_same w1 Bs 0 _ _ _ hbox1, fset.row ho1 fun k hk e => ?_, Fr.then h.fr f5 fun b hb => ?_, hlt⟩
  · have := (World.ownsRow.lt ho1 k hk).1; omega
  · rcases hb with hb | hb
    · exact Or.inl hb
    · exact Or.inr (hblk b hb).1

/-- In a round: the box of the loop variable. -/
def AxG (Bs : Nat) (w : World) (c : Nat) (A : Nat → Ky → Act) (pre : List Ky) (x : Ky) (a' : Act) (W : World) : Prop :=
  ∃ Bx v, a' = A Bx x ∧ W.heap[Bx]? = some (.cells #[.string x.1, .string x.2] 27 (0, 0)) ∧ KsG Bs w pre v W ∧ pre.length < c

theorem AxG.own_from (Bs : Nat) (w : World) (n : Nat) (A : Nat → Ky → Act) (pre : List Ky) (x : Ky) (a' : Act) : OwnFrom w.heap.size (fun (_ : Unit) W => AxG Bs w n A pre x a' W) := by
  rintro _ W W' row ⟨Bx, v, h1, h2, h3, h4⟩ hg hr
  exact ⟨Bx, v, h1, cells_ncG h2 hg fun r e => (hr r e).2, h3.nc hg hr, h4⟩

/-- Keys collected, in whatever order. -/
def CollG (w : World) (f : Ky → Option We) (e : Ending) (w' : World) : Prop :=
  ∃ u ks, e = .returned u ∧ KK.Own w.heap.size w' u ks ∧ ks.Nodup ∧ (∀ k, k ∈ ks ↔ FitK k ∧ (f k).isSome = true) ∧ Below w.heap.size w w'

set_option maxHeartbeats 4000000 in
set_option maxRecDepth 100000 in
theorem wappendseq_any {W0 : World} {Bm c : Nat} {f : Ky → Option We} (hq : SeqK W0 Bm f c) (hn : c ≤ 2400000000000) :
    Calls Try.prog 51 #[.slice none 0 0, .func (.func 38) #[] #[.pointer (some ⟨Bm, 0, none⟩)]] W0 fun e w' => CollG W0 f e w' := by
  obtain ⟨N, hN⟩ : ∃ N, W0.heap.size = N := ⟨_, rfl⟩
  obtain ⟨w4, hw4⟩ : ∃ w4, W0.alloc (.cells #[.slice none 0 0] 40) = w4 := ⟨_, rfl⟩
  have hb4 : Below N W0 w4 := by rw [← hw4, ← hN]; exact (Below.refl _ _).alloc (Nat.le_refl _) _
  have hs4 : w4.heap.size = N + 1 := by rw [← hw4, ← hN]; simp
  have x0 : w4.heap[N]? = some (.cells #[.slice none 0 0] 40 (0, 0)) := by rw [← hw4, ← hN]; exact heap_alloc_new W0 _
  have hSEQ := hq w4 (by rw [hN]; exact hb4)
  have HF0 : Hid (KsG N w4 [] (.slice none 0 0) w4) := ⟨x0, KK.own_nil _ _, Fr.refl _ _, by omega⟩
  have HB04 := hid hb4
  clear hb4 x0 hq
  have hen := enters_of (P := Try.prog) Try.func38 (by kernel_rfl) rfl
  refine (callsIn_wide (n := 3)).1 ?_
  refine callsIn_of_wp_marks Try.func51 rfl trivial ?_ rfl
  simp only [Try.ntmps51, List.size_toArray, List.length_cons, List.length_nil, Nat.reduceAdd, Nat.reduceSub, Array.replicate_succ, Array.replicate_zero, List.push_toArray, List.append_toArray, List.nil_append, List.cons_append]
  gi_wp2
  refine wpIn_rangeFunc_mem (w := w4) rfl (by decide) (gf := 38) (lb := #[.pointer (some ⟨Bm, 0, none⟩)]) rfl trivial hen
    hSEQ kpG_trans (fun W l o' _ hr => kpG_put W l o' hr) (fun _ => rfl) (fun pre W => ∃ v, KsG N w4 pre v W) (fun _ _ _ => False) (KsG.own_from _ _) (fun _ _ _ _ _ h _ _ => h.elim) ⟨_, HF0.out⟩
    (AxG N w4 c (fun Bx x => { tmps := #[.slice none 0 0, .func (.func 38) #[] #[.pointer (some ⟨Bm, 0, none⟩)], .pointer (some ⟨N, 0, none⟩), undef, .slice none 0 0, .pointer (some ⟨Bx, 0, none⟩), .func (.func 38) #[] #[.pointer (some ⟨Bm, 0, none⟩)], .agg #[.string x.1, .string x.2], undef, undef, undef, undef, undef], defers := [] }))
    (fun pre x a' => AxG.own_from _ _ _ _ pre x a') ?assign ?body ?done ?stop
  case assign =>
    rintro l pre ⟨ka, kb⟩ W K hlt ⟨v, hF⟩ hG hK
    have hb : Below W.heap.size W (W.alloc (.cells #[.string ka, .string kb] 27)) := (Below.refl _ _).alloc (Nat.le_refl _) _
    have HK := hid (hK _ _ (keeps_ofG (P := fun _ => False) (Fr.of_below hb) fun b _ e => e.elim) (kpG_fr (P := fun _ => False) (Fr.of_below hb) fun b e _ => e.elim) ⟨W.heap.size, v, rfl, heap_alloc_new W _, hF.nc (grown_ofG hb) (fun r e => by cases e), hG.2⟩)
    simp only [encKg] at HK ⊢
    clear hK hF hG hb
    gi_wp2
    exact HK.out
  case body =>
    rintro l pre ⟨ka, kb⟩ a' W hlt ⟨Bx, v, rfl, hbx, hF, hplen⟩
    obtain ⟨i0, hi0, hz0, hz1, hz2⟩ := info_parts Try.infoKg
    have hsW := hF.fr.size
    obtain ⟨vp, vc, rfl⟩ := Kind.own_shape hF.own
    have z0 : W.cell? ⟨N, 0, none⟩ = some (.slice vp pre.length vc) := by rw [Lib.cell_of_heap hF.box]; rfl
    have z2 : W.cell? ⟨Bx, 0, none⟩ = some (.string ka) := by rw [Lib.cell_of_heap hbx]; rfl
    have z3 : W.cell? ⟨Bx, 1, none⟩ = some (.string kb) := by rw [Lib.cell_of_heap hbx]; rfl
    have HF := hid hF
    have HI := hid hi0
    have HO5 := hid hF.own
    have KB6 : Hid (∀ o (w6 : World), (W.alloc o).grownBy w6 (Value.slice vp pre.length vc).ownBlock → w6.cell? ⟨N, 0, none⟩ = some (.slice vp pre.length vc) ∧ w6.frozen? ⟨N, 0, none⟩ = false) := fun o w6 hg => by
      have h1 : w6.heap[N]? = some (.cells #[.slice vp pre.length vc] 40 (0, 0)) := (hg.block N (by simp; omega) fun e => by have := (World.ownsRow.lt HO5.out _ e.symm).1; omega).trans ((Below.heap_alloc _ _ _ (by omega)).trans HF.out.box)
      exact ⟨by rw [Lib.cell_of_heap h1]; rfl, Lib.frozen_of_heap h1 0⟩
    clear hF hi0 hbx
    gi_wp2_with (first
      | (gi_at_builtin; refine wpListIn_append_own _ rfl _ _ 40 rfl w4.heap.size 27 i0 (.agg #[.string ⟨#[]⟩, .string ⟨#[]⟩]) 2 32 Try.underlying40 HI.out hz0 hz1 hz2 rfl (by decide) _ _ _ rfl (World.ownsRow.alloc HO5.out _) _ 1 1 [.string ka, .string kb] rfl rfl (fun j u hj => KK.newsN W (ka, kb) _ (by simp) j u hj) (by intro u hu; simp at hu; rcases hu with rfl | rfl <;> rfl) (by unfold maxLen; omega) (by omega) (by simp; omega) ?_; intro v6 w6 hown6 hg6 hnil6; obtain ⟨g6, c6, rfl⟩ := ownsRow_succ hown6; obtain ⟨t0, t1⟩ := KB6.out _ _ hg6; have HO6 := hid hown6; have HG6 := hid hg6; clear hown6 hg6 hnil6))
    obtain ⟨r1, r2, r3⟩ := ksG_push (x := (ka, kb)) HF.out ((Below.refl _ W).alloc (Nat.le_refl _) _) HG6.out (Kind.own_snoc HO6.out rfl rfl)
    exact ⟨r1, r2, _, r3⟩
  case done =>
    rintro xs W hS ⟨v, hF⟩ hK
    obtain ⟨vp, vc, rfl⟩ := Kind.own_shape hF.own
    have c0 : W.cell? ⟨N, 0, none⟩ = some (.slice vp xs.length vc) := by rw [Lib.cell_of_heap hF.box]; rfl
    have hgp : W.grownBy (W.putObj w4.heap.size (.deferred none)) (some w4.heap.size) := grownBy_putObj' W _ _
    have hFp := hF.nc hgp fun r e => by injection e with e; rw [← e]; exact ⟨Nat.le_refl _, _, hK, rfl⟩
    have hb0 : Below N W0 (W.putObj w4.heap.size (.deferred none)) := HB04.out.trans (hFp.fr.below (N := N) (by omega) fun k hk => by omega)
    have HP : Hid (CollG W0 f (.returned (.slice vp xs.length vc)) (W.putObj w4.heap.size (.deferred none))) :=
      ⟨_, xs, rfl, Kind.own_weak hFp.own (by omega), hS.1, hS.2, by rw [hN]; exact hb0⟩
    have HK := hid hK
    clear hF hFp hgp hb0 hK
    gi_wp2
    refine ⟨by simp, .inl ⟨_, _, rfl, run_takeDeferred HK.out, ?_⟩⟩
    exact ⟨.slice vp xs.length vc, by simp [results, Try.results51, go_sem], HP.out⟩
  case stop =>
    rintro c pre W _ hx _
    exact hx.elim


theorem wcollect_any {W0 : World} {Bm c : Nat} {f : Ky → Option We} (hq : SeqK W0 Bm f c) (hn : c ≤ 2400000000000) :
    Calls Try.prog 36 #[.func (.func 38) #[] #[.pointer (some ⟨Bm, 0, none⟩)]] W0 fun e w' => CollG W0 f e w' := by
  have HA := hid (wappendseq_any hq hn)
  clear hq
  go_enter Try.func36, Try.ntmps36
  go_wp2_with fail
  refine HA.out.mono ?_
  rintro e w1 ⟨u, ks, rfl, h1, h2, h3, h4⟩
  have HP : Hid (CollG W0 f (.returned u) w1) := ⟨u, ks, rfl, h1, h2, h3, h4⟩
  obtain ⟨p, c, rfl⟩ := Kind.own_shape h1
  clear h1 h2 h3 h4 HA
  go_wp2_with fail
  go_ret
  exact HP.out

theorem sorted_risingG (ks : List Ky) (hn : ks.Nodup) (d : Array Ky) (hp : PermIn 0 ks.length ks.toArray d) (hs : SortedIn (ltOf Z.cmpK) 0 ks.length d) : RisingR ltKy d.toList ∧ (∀ x, x ∈ d.toList ↔ x ∈ ks) ∧ d.size = ks.length := by
  obtain ⟨h1, _, h3⟩ := hp
  have hsz : d.size = ks.length := by simpa using h1
  have hperm : d.toList.Perm ks := by
    have e1 : (d.extract 0 ks.length).toList = d.toList := by rw [← hsz]; simp
    have e2 : (ks.toArray.extract 0 ks.length).toList = ks := by simp
    rw [e1, e2] at h3
    exact h3
  have hnd : d.toList.Nodup := hperm.nodup_iff.2 hn
  refine ⟨?_, fun x => hperm.mem_iff, hsz⟩
  refine List.pairwise_iff_getElem.2 fun i j hi hj hij => ?_
  have hi' : i < d.size := by simpa using hi
  have hj' : j < d.size := by simpa using hj
  have := hs i j (Nat.zero_le _) hij (by omega)
  rw [getElem!_pos d i hi', getElem!_pos d j hj'] at this
  have hne : d[i] ≠ d[j] := fun e => by
    have := List.pairwise_iff_getElem.1 hnd i j hi hj hij
    exact this (by simpa using e)
  have hlt : Z.ahead d[i] d[j] := by
    rcases Z.ahead_total d[i] d[j] with h | h | h
    · exact h
    · exact absurd h hne
    · rw [(Z.ahead_iff _ _).2 h] at this; cases this
  have := (z_lt _ _).1 hlt
  simpa using this

/-- Keys, rising. -/
def RiseG (w : World) (f : Ky → Option We) (e : Ending) (w' : World) : Prop :=
  ∃ u ks, e = .returned u ∧ KK.Own w.heap.size w' u ks ∧ RisingR ltKy ks ∧ (∀ k, k ∈ ks ↔ FitK k ∧ (f k).isSome = true) ∧ Below w.heap.size w w'

/-- A row of keys, sorted in place. -/
theorem wsortrow_any {B : Nat} {w : World} {u : Value} {ks : List Ky} (h : KK.Own B w u ks) (hn : ks.Nodup) (hl : ks.length ≤ 2400000000000) (hB : B ≤ w.heap.size) :
    Calls Try.prog 37 #[u, .func (.func 25) #[] #[]] w fun e w' => e = .returned (.tuple #[]) ∧ ∃ l, KK.Own B w' u l ∧ RisingR ltKy l ∧ (∀ x, x ∈ l ↔ x ∈ ks) ∧ l.length = ks.length ∧ Below B w w' := by
  rcases h.2 with ⟨rfl, hz⟩ | ⟨g, cap, cur, rfl, _⟩
  · obtain rfl := List.length_eq_zero_iff.1 hz
    refine (sortfunc_nil w).mono ?_
    rintro e w' ⟨rfl, rfl⟩
    exact ⟨rfl, [], h, List.Pairwise.nil, fun x => Iff.rfl, rfl, Below.refl _ _⟩
  · have hge := Kind.own_ge h
    have hH : HoldsK Z.encKey 2 w g 0 ks.toArray := Kind.own_holds h
    have := Z.zsortfunc_any g 0 cap ks.toArray w hH hge.2.1 (by simp; omega)
    simp only [List.size_toArray] at this
    refine this.mono ?_
    rintro e w' ⟨rfl, d', n, os, hp, hs, rfl⟩
    obtain ⟨h1, h2, h3⟩ := sorted_risingG ks hn d' hp hs
    exact ⟨rfl, d'.toList, Kind.own_sorted h d' h3 n os, h1, h2, by simpa using h3, below_sortK Z.encKey 2 (Below.refl _ _) hB g 0 n d' os hge.1⟩

theorem wsortedfunc_any {W0 : World} {Bm c : Nat} {f : Ky → Option We} (hq : SeqK W0 Bm f c) (hn : c ≤ 2400000000000) (hlen : ∀ ks : List Ky, ks.Nodup → (∀ k, k ∈ ks ↔ FitK k ∧ (f k).isSome = true) → ks.length ≤ 2400000000000) :
    Calls Try.prog 23 #[.func (.func 38) #[] #[.pointer (some ⟨Bm, 0, none⟩)], .func (.func 25) #[] #[]] W0 fun e w' => RiseG W0 f e w' := by
  have HA := hid (wcollect_any hq hn)
  have HL := hid hlen
  clear hq hlen
  go_enter Try.func23, Try.ntmps23
  go_wp2_with fail
  refine HA.out.mono ?_
  rintro e w1 ⟨u, ks, rfl, h1, h2, h3, h4⟩
  have HS := hid (wsortrow_any h1 h2 (HL.out ks h2 h3) h4.size)
  have HM := hid h3
  have HB := hid h4
  obtain ⟨p, c, rfl⟩ := Kind.own_shape h1
  clear h1 h2 h3 h4 HA
  go_wp2_with fail
  refine HS.out.mono ?_
  rintro e w2 ⟨rfl, l, k1, k2, k3, k4, k5⟩
  have HP : Hid (RiseG W0 f (.returned (.slice p ks.length c)) w2) := ⟨_, l, rfl, k1, k2, fun k => (k3 k).trans (HM.out k), HB.out.trans k5⟩
  clear k1 k2 k3 k4 k5
  go_wp2_with fail
  go_ret
  exact HP.out

/-! ## Keys -/

theorem keys_there {L : List RowW} (k : Ky) : k ∈ keysW L ↔ (getW L k).isSome = true := by
  unfold keysW
  constructor
  · intro hk
    obtain ⟨y, hy, rfl⟩ := List.mem_map.1 hk
    cases e : getW L y.1 with
    | some _ => rfl
    | none => exact absurd rfl (getW_none.1 e y hy)
  · intro hk
    obtain ⟨r, hr⟩ := Option.isSome_iff_exists.1 hk
    exact List.mem_map.2 ⟨_, getW_mem hr, rfl⟩
theorem keyB_fit {k : Ky} (h : keyB k.1 k.2 = true) : FitK k := by
  unfold keyB at h
  rw [Bool.and_eq_true] at h
  have h1 := typeB_len h.1
  have h2 := idenB_len h.2
  have e1 : k.1.size ≤ 32 := by simpa using h1
  have e2 : k.2.size ≤ 32 := by simpa using h2
  unfold FitK maxLen
  omega
theorem nodup_len {s t : List Ky} (hs : s.Nodup) (h : ∀ k ∈ s, k ∈ t) : s.length ≤ t.length := by
  induction s generalizing t with
  | nil => simp
  | cons k s ih =>
    obtain ⟨h1, h2⟩ := List.nodup_cons.1 hs
    obtain ⟨a, b, rfl⟩ := List.append_of_mem (h k List.mem_cons_self)
    have := ih h2 (t := a ++ b) fun x hx => by
      have := h x (List.mem_cons_of_mem _ hx)
      rw [List.mem_append, List.mem_cons] at this
      rw [List.mem_append]
      rcases this with h | rfl | h
      · exact Or.inl h
      · exact absurd hx h1
      · exact Or.inr h
    simp only [List.length_append, List.length_cons] at this ⊢
    omega

set_option maxHeartbeats 1000000 in
theorem wkeys_gen {W : World} {r : Option Addr} {mp : Option Nat} {f : Ky → Option We} {c : Nat} {K0 : List Ky} (hall : Calls Try.prog 21 #[.pointer r] W fun e w2 => e = .returned (.map mp) ∧ w2 = W)
    (hq : SeqK (W.alloc (.cells #[.map mp] 57)) W.heap.size f c) (hn : c ≤ 2400000000000) (hK : RisingR ltKy K0) (hin : ∀ k, (FitK k ∧ (f k).isSome = true) ↔ k ∈ K0) (hK0 : K0.length ≤ 2400000000000) :
    Calls Try.prog 13 #[.pointer r] W fun e w' => KeysPost W K0 e w' := by
  have hMK : Calls Try.prog 24 #[.map mp] W fun e w' => e = .returned (.func (.func 38) #[] #[.pointer (some ⟨W.heap.size, 0, none⟩)]) ∧ w' = W.alloc (.cells #[.map mp] 57) := by
    have hmf : ∀ (fn : Fn) (first cap : Array Value) (w : World), (Instr.makeFunc fn first cap).run Try.prog w = .ok (.func fn first cap) w := fun _ _ _ _ => rfl
    go_enter Try.func24, Try.ntmps24
    go_wp2_with fail
    go_ret
    exact ⟨rfl, rfl⟩
  have hb1 : Below W.heap.size W (W.alloc (.cells #[.map mp] 57)) := (Below.refl _ _).alloc (Nat.le_refl _) _
  have HSF := hid (wsortedfunc_any hq hn fun ks hk hm => by
    have := nodup_len hk fun k hk => (hin k).1 ((hm k).1 hk)
    omega)
  have HEQ : Hid (∀ ks : List Ky, RisingR ltKy ks → (∀ k, k ∈ ks ↔ FitK k ∧ (f k).isSome = true) → ks = K0) := fun ks hr hm => rising_uniqR totK hr hK fun z => (hm z).trans (hin z)
  have HAL := hid hall
  have HMK := hid hMK
  have HB1 := hid hb1
  clear hMK hb1 hin hall hq hK
  go_enter Try.func13, Try.ntmps13
  go_wp2_with fail
  refine HAL.out.mono ?_
  rintro e w0 ⟨rfl, rfl⟩
  go_wp2_with fail
  refine HMK.out.mono ?_
  rintro e w1 ⟨rfl, rfl⟩
  go_wp2_with fail
  refine HSF.out.mono ?_
  rintro e w2 ⟨u, ks, rfl, k1, k2, k3, k4⟩
  obtain rfl := HEQ.out ks k2 k3
  have HP : Hid (KeysPost w0 ks (.returned u) w2) := ⟨u, rfl, Kind.own_weak k1 (by simp), bel_then HB1.out HB1.out.size k4⟩
  obtain ⟨p, c, rfl⟩ := Kind.own_shape k1
  clear k1 k2 k3 k4
  go_wp2_with fail
  go_ret
  exact HP.out

theorem wkeys_any {n0 : Nat} {W : World} {B : Nat → Prop} {g : Nat} {L : List RowW} (h : PrgW n0 W B g L) (hl : L.length ≤ 1300000000000) : Calls Try.prog 13 #[.pointer (some ⟨g, 0, none⟩)] W fun e w' => KeysPost W (keysW L) e w' := by
  obtain ⟨m, F, O, h⟩ := h
  have hb1 : Below W.heap.size W (W.alloc (.cells #[.map (some m)] 57)) := (Below.refl _ _).alloc (Nat.le_refl _) _
  refine wkeys_gen (allW_is g m W h.cell) (SeqK.of (by simp [go_sem]) (h.on hb1).map) (by omega) ?_ (fun k => ?_) ?_
  · unfold keysW
    exact List.pairwise_map.2 h.ok.rise
  · rw [keys_there, fS_some]
    refine ⟨fun hk => hk.2, fun hk => ⟨?_, hk⟩⟩
    obtain ⟨r, hr⟩ := Option.isSome_iff_exists.1 hk
    exact keyB_fit (h.ok.key _ (getW_mem hr))
  · unfold keysW
    rw [List.length_map]
    omega
theorem wkeys_nil (W : World) : Calls Try.prog 13 #[.pointer none] W fun e w' => KeysPost W [] e w' :=
  wkeys_gen (allW_nil W) (SeqK.nil (by simp [go_sem])) (by omega) List.Pairwise.nil (fun k => by simp) (by simp)

end Go.Proofs.Ytjehjjpdicimhaa

/-
  Two answers held against each other (stage 11).
-/
namespace Go.Proofs.Ytjehjjpdicimhaa
open Go.RowKit

theorem fitX_same {o d : List Fx} (h : o.map Fx.fld = d.map Fx.fld) (hf : FitX d) : FitX o := by
  refine ⟨?_, fun x hx => ?_⟩
  · have := congrArg List.length h
    rw [List.length_map, List.length_map] at this
    rw [this]
    exact hf.1
  · have : x.fld ∈ d.map Fx.fld := by rw [← h]; exact List.mem_map_of_mem hx
    obtain ⟨y, hy, e⟩ := List.mem_map.1 this
    rw [← e]
    exact hf.2 y hy

theorem keys_isZ {w : World} {v : Value} {d : List Ky} (h : KK.Is w v d) : Z.IsKeys w v d := by
  obtain ⟨p, c, rfl, h⟩ := h
  refine ⟨p, c, rfl, ?_⟩
  rcases h with h | ⟨b, off, rfl, h⟩
  · exact Or.inl h
  · exact Or.inr ⟨b, off, rfl, fun i hi => kk_at h i hi⟩

theorem keys_same {w : World} {u1 u2 : Value} {d e : List Ky} (h1 : KK.Is w u1 d) (h2 : KK.Is w u2 e) (hd : d.length ≤ 2000000000000) (he : e.length ≤ 2000000000000) :
    Calls Try.prog 16 #[u1, u2] w fun r w' => r = .returned (.bool (decide (d = e))) ∧ Below w.heap.size w w' := by
  refine (Z.zsame_any u1 u2 d e w (keys_isZ h1) (keys_isZ h2) (by unfold maxLen; omega) (by unfold maxLen; omega)).mono ?_
  rintro r w' ⟨rfl, n, rfl⟩
  exact ⟨rfl, bel_drewN (Below.refl _ _) n⟩

/-- A list of finds that may be looked at. -/
structure FoundAt (W : World) (v : Value) (l : List Fnd) : Prop where
  ex : ∃ fs : List Fd, KFd.Is W v fs ∧ (∀ f ∈ fs, f.v.at W ∧ FitX f.v.o) ∧ fs.map Fd.fnd = l
theorem FoundAt.on {W W' : World} {v : Value} {l : List Fnd} (h : FoundAt W v l) (hb : Below W.heap.size W W') : FoundAt W' v l := by
  obtain ⟨fs, h1, h2, h3⟩ := h.ex
  exact ⟨fs, Kind.is_kept h1 hb, fun f hf => ⟨IsXs.kept (h2 f hf).1 hb, (h2 f hf).2⟩, h3⟩
theorem FoPost.at {W w' : World} {l : List Fnd} {u : Value} (h : FoPost W l (.returned u) w') : FoundAt w' u l := by
  obtain ⟨u', fs, e, h1, h2, _, h3, _⟩ := h
  injection e with e
  subst e
  exact ⟨fs, Kind.own_is h1, fun f hf => ⟨(h2 f hf).1.1.is, (h2 f hf).2⟩, h3⟩
theorem OverPost.at {W w' : World} {l : List Fnd} {u : Value} (h : OverPost W l (.returned u) w') : FoundAt w' u l := by
  obtain ⟨u', fs, e, h1, h2, h3, h4⟩ := h
  injection e with e
  subst e
  exact ⟨fs, Kind.own_is h1, fun f hf => ⟨IsXs.kept (h2 f hf).1 h4, (h2 f hf).2⟩, h3⟩
theorem FoundIn.at {W : World} {v : Value} {fo : List Fd} (h : FoundIn W v fo) : FoundAt W v (fo.map Fd.fnd) :=
  ⟨fo, h.is, fun f hf => ⟨(h.each f hf).1, (h.each f hf).2.1⟩, rfl⟩

theorem found_same {w : World} {u1 u2 : Value} {l m : List Fnd} (h1 : FoundAt w u1 l) (h2 : FoundAt w u2 m) (hl : l.length ≤ 1600000000000) :
    Calls Try.prog 17 #[u1, u2] w fun r w' => r = .returned (.bool (decide (l = m))) ∧ Below w.heap.size w w' := by
  obtain ⟨d, a1, a2, rfl⟩ := h1.ex
  obtain ⟨e, b1, b2, rfl⟩ := h2.ex
  rw [List.length_map] at hl
  exact sameFd_any u1 u2 d e w a1 b1 a2 b2 (by unfold maxLen; omega)

theorem over_len_le (L : List RowW) (fs : List Fnd) (typ : ByteArray) (m : List Fld → Bool) : (overW L fs typ m).length ≤ fs.length + L.length := by
  rw [overW_len]
  have h1 := freeW_len L fs
  have h2 : (hitsW L typ m).length ≤ L.length := List.length_filterMap_le _ _
  omega

theorem copyX_same {o d : List Fx} (h : o.map Fx.fld = d.map Fx.fld) (hc : CopyX d) : CopyX o := by
  refine ⟨?_, fun x hx => ?_⟩
  · have := congrArg List.length h
    rw [List.length_map, List.length_map] at this
    rw [this]
    exact hc.1
  · have hm : x.fld ∈ d.map Fx.fld := by rw [← h]; exact List.mem_map_of_mem hx
    obtain ⟨y, hy, e⟩ := List.mem_map.1 hm
    have e2 : y.txt = x.txt := congrArg Prod.snd e
    rw [← e2]
    exact hc.2 y hy

/-- A row of finds is no row of fields, and none of texts. -/
theorem fd_off {n0 N : Nat} {w : World} {vs u : Value} {d : List Fd} {o : List Fx} (h : KFd.Own n0 w vs d) (hx : OwnJ N w u o) (k : Nat) (hk : vs.ownBlock = some k) : ¬ BlkX u o k := by
  obtain ⟨cs, h1⟩ := own_type (show w.ownsRow n0 49 7 vs d.length (KFd.cells d) from h) hk
  intro hb
  rcases hb with hb | ⟨f, hf, hb⟩
  · obtain ⟨cs', h2⟩ := own_type hx.1.1 hb
    rw [h1] at h2
    injection h2 with h2
    injection h2 with _ h2
    exact absurd h2 (by decide)
  · obtain ⟨cs', h2⟩ := own_type (show w.ownsRow N 9 1 f.sl f.txt.length (f.txt.map Value.string) from hx.1.2 f hf) hb
    rw [h1] at h2
    injection h2 with h2
    injection h2 with _ h2
    exact absurd h2 (by decide)

end Go.Proofs.Ytjehjjpdicimhaa

/-
  What was found, without what is written (stage 11): the walk of spared.
-/
namespace Go.Proofs.Ytjehjjpdicimhaa
open Go.RowKit Go.Maps

/-! ## Finds told anew, under way -/

/-- The list v has the finds fs, from N on, each with a value in memory of its own. -/
structure TlSt (N : Nat) (W : World) (v : Value) (fs : List Fd) (w : World) : Prop where
  row : RowSt KFd N W v fs w
  val : ∀ f ∈ fs, OwnJ N w f.v.sl f.v.o ∧ FitX f.v.o
  apart : ApartF fs

section
variable {N : Nat} {W : World} {v : Value} {fs : List Fd} {w : World}
theorem TlSt.nil (hb : Below N W w) (hN : N ≤ w.heap.size) : TlSt N W (.slice none 0 0) [] w := ⟨RowSt.nil KFd hb hN, fun _ h => by simp at h, List.Pairwise.nil⟩
theorem TlSt.on {w' : World} (h : TlSt N W v fs w) (hb : Below w.heap.size w w') : TlSt N W v fs w' := ⟨h.row.on hb, fun f hf => ⟨(h.val f hf).1.on hb, (h.val f hf).2⟩, h.apart⟩
theorem TlSt.push {M : Nat} {w1 w2 : World} {v' : Value} (h : TlSt N W v fs w) (hb : Below w.heap.size w w1) (x : Fd) (hx : OwnJ M w1 x.v.sl x.v.o) (hM : w.heap.size ≤ M) (hfx : FitX x.v.o) (hst : RowSt KFd N W v' (fs ++ [x]) w2) (hg : w1.grownBy w2 v.ownBlock) : TlSt N W v' (fs ++ [x]) w2 := by
  have h1 := h.on hb
  have fr : Fr (fun k => v.ownBlock = some k) w1 w2 := Fr.of_grown hg fun k hk => hk
  have hk : ∀ {B : Nat} u o, OwnJ B w1 u o → OwnJ B w2 u o := fun u o hJ => ownJ_fr hJ fr fun k hb hv => fd_off h1.row.own hJ k hv hb
  refine ⟨hst, fun y hy => ?_, ?_⟩
  · rcases List.mem_append.1 hy with hy | hy
    · exact ⟨hk _ _ (h1.val y hy).1, (h1.val y hy).2⟩
    · rw [List.mem_singleton.1 hy]
      exact ⟨own_weakJ (hk _ _ hx) (Nat.le_trans h.row.base hM), hfx⟩
  · refine List.pairwise_append.2 ⟨h.apart, List.pairwise_singleton _ _, fun y hy z hz k hk1 hk2 => ?_⟩
    rw [List.mem_singleton.1 hz] at hk2
    have e1 := (ownJ_blk (h.val y hy).1 k hk1).2
    have e2 := (ownJ_blk hx k hk2).1
    omega
end

/-- A set's map, or none, as it is looked up in all that comes. -/
structure SetAt (W : World) (r : Option Addr) (mp : Option Nat) (L : List RowW) : Prop where
  all : ∀ w', Below W.heap.size W w' → Calls Try.prog 21 #[.pointer r] w' fun e w2 => e = .returned (.map mp) ∧ w2 = w'
  look : ∀ ka kb, FitKy (ka, kb) → ∃ lv p c n, ∀ w', Below W.heap.size W w' → (Instr.lookup 57 (.map mp) (.agg #[.string ka, .string kb]) true).run Try.prog w' = .ok (.tuple #[.agg #[.bool lv, .slice p n c], .bool (getW L (ka, kb)).isSome]) w'

theorem SetAt.of {n0 : Nat} {W : World} {B : Nat → Prop} {g m : Nat} {F : Ky → We} {O : Ky → List Fx} {L : List RowW} (h : PrgU n0 W B g m F O L) : SetAt W (some ⟨g, 0, none⟩) (some m) L :=
  ⟨fun w' hb => allW_is g m w' (h.on hb).cell, fun ka kb hk => by
    obtain ⟨lv, p, c, o, hl, _⟩ := LookS.of h ka kb hk
    exact ⟨lv, p, c, _, hl.look⟩⟩
theorem SetAt.nil (W : World) : SetAt W none none [] := ⟨fun w' _ => allW_nil w', fun ka kb hk => ⟨false, none, 0, _, (LookS.nil W ka kb hk).look⟩⟩

theorem freeW_in (L : List RowW) (fs : List Fnd) (f : Fnd) (h : (getW L f.1).isSome = true) : freeW L (fs ++ [f]) = freeW L fs := by
  unfold freeW
  rw [List.filter_append]
  cases e : getW L f.1 <;> simp_all
theorem freeW_out (L : List RowW) (fs : List Fnd) (f : Fnd) (h : (getW L f.1).isSome = false) : freeW L (fs ++ [f]) = freeW L fs ++ [f] := by
  unfold freeW
  rw [List.filter_append]
  cases e : getW L f.1 <;> simp_all

theorem Try.infoFdS : (Try.prog.info? 49).map (fun i => (i.zero, i.size, i.bytes)) = some (some (.agg #[.string ⟨#[]⟩, .string ⟨#[]⟩, .int .i64 0, .int .u64 0, .int .i64 0, .bool false, .slice none 0 0]), 7, 88) := by kernel_rfl

/-- What spared answers. -/
def SpPost (W : World) (l : List Fnd) (e : Ending) (w' : World) : Prop := ∃ v fs, e = .returned v ∧ TlSt W.heap.size W v fs w' ∧ fs.map Fd.fnd = l

set_option maxHeartbeats 8000000 in
set_option maxRecDepth 100000 in
theorem spared_any {W : World} {r : Option Addr} {mp : Option Nat} {L : List RowW} (h : SetAt W r mp L) (vf : Value) (fo : List Fd) (hfo : FoundIn W vf fo) (hl : fo.length ≤ 100000000) :
    Calls Try.prog 26 #[.pointer r, vf] W fun e w' => SpPost W (freeW L (fo.map Fd.fnd)) e w' := by
  obtain ⟨i0, hi0, hz0, hz1, hz2⟩ := info_parts Try.infoFdS
  obtain ⟨pf, cf, rfl⟩ : ∃ p c, vf = .slice p fo.length c := by obtain ⟨p, c, h1, _⟩ := hfo.is; exact ⟨p, c, h1⟩
  have HI0 := hid hi0
  have HFO := hid hfo
  have HSA := hid h
  have HST0 : Hid (TlSt W.heap.size W (.slice none 0 0) [] W ∧ ([] : List Fd).map Fd.fnd = freeW L ((fo.map Fd.fnd).take 0)) := ⟨TlSt.nil (Below.refl _ _) (Nat.le_refl _), rfl⟩
  clear hi0 hfo h
  go_enter Try.func26, Try.ntmps26
  go_wp2_with fail
  go_loopg [5, 12] fo.length (fun gg v5 vi wr => ∃ (i : Nat) (p' : Option Addr) (c' : Nat) (fs : List Fd), vi = .int .i64 i ∧ v5 = .slice p' fs.length c' ∧ i ≤ fo.length ∧ fo.length - i ≤ gg ∧ fs.length ≤ i ∧ Hid (TlSt W.heap.size W (.slice p' fs.length c') fs wr ∧ fs.map Fd.fnd = freeW L ((fo.map Fd.fnd).take i)))
  case atStart => exact ⟨0, none, 0, [], rfl, rfl, by omega, by omega, by simp, HST0.out⟩
  case round =>
    clear HST0
    obtain ⟨i, p', c', fs, rfl, rfl, hi, hgk, hfi, HI⟩ := hrel
    by_cases hlt : i < fo.length
    · have hltz : (i : Int) < (fo.length : Int) := by omega
      have hiz : (0 : Int) ≤ i := by omega
      have hbw : Below W.heap.size W wr := HI.out.1.row.bel
      have hfis := HFO.out.on hbw
      obtain ⟨b1, o1, rfl, k1⟩ : ∃ b off, pf = some ⟨b, off, none⟩ ∧ KFd.At wr b off fo := by
        obtain ⟨p', c', he, h⟩ := hfis.is
        injection he with e1 _ _
        subst e1
        rcases h with h | h
        · rw [h] at hlt; simp at hlt
        · exact h
      obtain ⟨y0, y1, y2, y3, y4, y5, y6⟩ := kfd_at k1 i hlt
      have hef := hfis.each _ (List.getElem_mem hlt)
      have hkf := hfis.kfit _ (List.getElem_mem hlt)
      have htk : (fo.map Fd.fnd).take (i + 1) = (fo.map Fd.fnd).take i ++ [(fo[i]).fnd] := by
        rw [List.take_succ_eq_append_getElem (by rw [List.length_map]; exact hlt), List.getElem_map]
      have HTK := hid htk
      clear htk k1 hfis
      generalize fo[i] = f at *
      obtain ⟨V, hV⟩ : ∃ V, wr.alloc (.cells (encFd f).toArray 49) = V := ⟨_, rfl⟩
      obtain ⟨O, hO⟩ : ∃ O, wr.heap.size = O := ⟨_, rfl⟩
      have hbV : Below wr.heap.size wr V := by rw [← hV]; exact (Below.refl _ _).alloc (Nat.le_refl _) _
      have hVo : V.heap[O]? = some (.cells (encFd f).toArray 49 (0, 0)) := by rw [← hV, ← hO]; exact heap_alloc_new wr _
      have hVs : V.heap.size = O + 1 := by rw [← hV, ← hO]; simp
      obtain ⟨lv, lp, lc, ln, hlook⟩ := HSA.out.look f.a f.b hkf
      have hWr : Below W.heap.size W V := bel_then hbw hbw.size hbV
      have HBX : Hid (∀ W' : World, W'.heap[O]? = V.heap[O]? → CellsF W' O 0 f ∧ W'.frozen? ⟨O, 6, none⟩ = false) := fun W' h => by
        have := h.trans hVo
        obtain ⟨fa, fb, ⟨fn, fq, ft, fl, fp, fc, fx⟩⟩ := f
        exact ⟨⟨by rw [Lib.cell_of_heap this]; rfl, by rw [Lib.cell_of_heap this]; rfl, by rw [Lib.cell_of_heap this]; rfl, by rw [Lib.cell_of_heap this]; rfl, by rw [Lib.cell_of_heap this]; rfl, by rw [Lib.cell_of_heap this]; rfl, by rw [Lib.cell_of_heap this]; rfl⟩, Lib.frozen_of_heap this 6⟩
      have KS : Hid (∀ W' : World, Below V.heap.size V W' → W'.cell? ⟨O, 0, none⟩ = some (.string f.a) ∧ W'.cell? ⟨O, 1, none⟩ = some (.string f.b) ∧ (Instr.lookup 57 (.map mp) (.agg #[.string f.a, .string f.b]) true).run Try.prog W' = .ok (.tuple #[.agg #[.bool lv, .slice lp ln lc], .bool (getW L (f.a, f.b)).isSome]) W') := fun W' hb => by
        have hx := (HBX.out W' (hb.block O (by omega))).1
        exact ⟨hx.1, hx.2.1, hlook W' (bel_then hWr hWr.size hb)⟩
      obtain ⟨X1, hX1⟩ : ∃ X1, V.drew.alloc (.cells #[.bool false, .slice none 0 0] 63) = X1 := ⟨_, rfl⟩
      have hb1 : Below V.heap.size V X1 := by rw [← hX1]; exact ((Below.refl _ V).drew).alloc (Nat.le_refl _) _
      have hb2 : Below V.heap.size V (X1.setCell ⟨O + 1, 0, none⟩ (.bool lv)) := hb1.setCell (show V.heap.size ≤ O + 1 by omega) _
      have hb3 : Below V.heap.size V ((X1.setCell ⟨O + 1, 0, none⟩ (.bool lv)).setCell ⟨O + 1, 1, none⟩ (.slice lp ln lc)) := hb2.setCell (show V.heap.size ≤ O + 1 by omega) _
      have ho1 : X1.heap[O + 1]? = some (.cells #[.bool false, .slice none 0 0] 63 (0, 0)) := by rw [← hX1, ← hVs]; exact heap_alloc_new V.drew _
      obtain ⟨X3, hX3⟩ : ∃ X3, (X1.setCell ⟨O + 1, 0, none⟩ (.bool lv)).setCell ⟨O + 1, 1, none⟩ (.slice lp ln lc) = X3 := ⟨_, rfl⟩
      rw [hX3] at hb3
      have z0 : X1.cell? ⟨O + 1, 0, none⟩ = some (.bool false) := by rw [Lib.cell_of_heap ho1]; rfl
      have z1 : X1.cell? ⟨O + 1, 1, none⟩ = some (.slice none 0 0) := by rw [Lib.cell_of_heap ho1]; rfl
      have z2 : X1.frozen? ⟨O + 1, 0, none⟩ = false := Lib.frozen_of_heap ho1 0
      have z3 : X1.frozen? ⟨O + 1, 1, none⟩ = false := Lib.frozen_of_heap ho1 1
      have hbd : Below V.heap.size V V.drew := (Below.refl _ V).drew
      have HALL : Hid (∀ w' : World, Below V.heap.size V w' → Calls Try.prog 21 #[.pointer r] w' fun e w2 => e = .returned (.map mp) ∧ w2 = w') := fun w' hb => HSA.out.all w' (bel_then hWr hWr.size hb)
      have HBD := hid hbd
      have HB1 := hid hb1
      have HB3 := hid hb3
      have HWR3 := hid (bel_then hbV hbV.size hb3)
      have q0 := KS.out V.drew hbd
      have q1 := KS.out _ hb1
      have q2 := KS.out _ hb3
      have hn3 := hb3.size
      have HX3 := hid ((HBX.out X3 (hb3.block O (by omega))))
      have HC := hid (wcopied_any f.v.sl f.v.o X3 (IsXs.kept hef.1 (bel_then hbV hbV.size hb3)) hef.2.1 hef.2.2)
      have HEF := hid hef.2
      clear hbw hef hkf hlook hWr hb1 hb2 hb3 ho1 hbd hbV KS
      obtain ⟨b, hb⟩ : ∃ b, (getW L (f.a, f.b)).isSome = b := ⟨_, rfl⟩
      have HB := hid hb
      rw [hb] at q0 q1 q2
      clear hb
      obtain ⟨fa, fb, ⟨fn, fq, ft, fl, fp, fc, fx⟩⟩ := f
      simp only [encFd, encVx, Vx.sl, CellsF, CellsV, Nat.zero_add] at *
      go_wp2_with fail
      try rw [hO]
      try rw [hV]
      clear y0 y1 y2 y3 y4 y5 y6
      go_region_held3 (fun w' => w'.cell? ⟨O, 0, none⟩ = some (.string fa) ∧ w'.cell? ⟨O, 1, none⟩ = some (.string fb) ∧ (Instr.lookup 57 (.map mp) (.agg #[.string fa, .string fb]) true).run Try.prog w' = .ok (.tuple #[.agg #[.bool lv, .slice lp ln lc], .bool b]) w')
        (first | exact q0 | exact q1 | exact q2)
        (first | (go_at_call 21; refine (HALL.out _ (by first | exact HBD.out | exact HB1.out)).mono ?_; rintro e w5 ⟨rfl, rfl⟩))
      all_goals
        try rw [hX3]
        cases b with
        | true =>
          have HN : Hid (TlSt W.heap.size W (.slice p' fs.length c') fs X3 ∧ fs.map Fd.fnd = freeW L ((fo.map Fd.fnd).take (i + 1))) := by
            refine ⟨HI.out.1.on HWR3.out, ?_⟩
            rw [HTK.out, freeW_in L _ _ HB.out, HI.out.2]
          go_wp2_with fail
          go_roundg (fo.length - (i + 1))
          case measure => omega
          exact ⟨i + 1, p', c', fs, by go_num, rfl, by omega, by omega, by omega, HN.out⟩
        | false =>
          obtain ⟨⟨s0, s1, s2, s3, s4, s5, s6⟩, s7⟩ := HX3.out
          go_wp2_with fail
          refine HC.out.mono ?_
          rintro e w5 ⟨u, o5, rfl, hJ5, ho5, hb5⟩
          obtain ⟨p5, f5, rfl⟩ := ownJ_slice hJ5
          have hk5 : w5.heap[O]? = V.heap[O]? := (hb5.block O (by omega)).trans (HB3.out.block O (by omega))
          obtain ⟨⟨e0, e1, e2, e3, e4, e5, e6⟩, e7⟩ := HBX.out w5 hk5
          have hs5 := hb5.size
          have hb6 : Below wr.heap.size wr (w5.setCell ⟨O, 6, none⟩ (.slice p5 o5.length f5)) := (bel_then HWR3.out HWR3.out.size hb5).setCell (by show wr.heap.size ≤ O; omega) _
          have hb7 : Below wr.heap.size wr ((w5.setCell ⟨O, 6, none⟩ (.slice p5 o5.length f5)).alloc (.cells #[.string fa, .string fb, .int .i64 fn, .int .u64 fq, .int .i64 ft, .bool fl, .slice p5 o5.length f5] 49)) := hb6.alloc hb6.size _
          have HROW : Hid (RowSt KFd W.heap.size W (.slice p' fs.length c') fs ((w5.setCell ⟨O, 6, none⟩ (.slice p5 o5.length f5)).alloc (.cells #[.string fa, .string fb, .int .i64 fn, .int .u64 fq, .int .i64 ft, .bool fl, .slice p5 o5.length f5] 49))) := (HI.out.1.on hb7).row
          have hJ7 : OwnJ X3.heap.size ((w5.setCell ⟨O, 6, none⟩ (.slice p5 o5.length f5)).alloc (.cells #[.string fa, .string fb, .int .i64 fn, .int .u64 fq, .int .i64 ft, .bool fl, .slice p5 o5.length f5] 49)) (.slice p5 o5.length f5) o5 := (ownJ_set hJ5 (by omega) _).on ((Below.refl _ _).alloc (Nat.le_refl _) _)
          have HN7 : Hid (((w5.setCell ⟨O, 6, none⟩ (.slice p5 o5.length f5)).alloc (.cells #[.string fa, .string fb, .int .i64 fn, .int .u64 fq, .int .i64 ft, .bool fl, .slice p5 o5.length f5] 49)).heap[w5.heap.size]? = some (.cells #[.string fa, .string fb, .int .i64 fn, .int .u64 fq, .int .i64 ft, .bool fl, .slice p5 o5.length f5] 49 (0, 0))) := by
            have := heap_alloc_new (w5.setCell ⟨O, 6, none⟩ (.slice p5 o5.length f5)) (.cells #[.string fa, .string fb, .int .i64 fn, .int .u64 fq, .int .i64 ft, .bool fl, .slice p5 o5.length f5] 49)
            have hz : (w5.setCell ⟨O, 6, none⟩ (.slice p5 o5.length f5)).heap.size = w5.heap.size := by simp
            rw [hz] at this
            exact this
          have HPU : Hid (∀ g7 c7 w8, RowSt KFd W.heap.size W (.slice (some ⟨g7, 0, none⟩) (fs.length + 1) c7) (fs ++ [⟨fa, fb, ⟨fn, fq, ft, fl, p5, f5, o5⟩⟩]) w8 → ((w5.setCell ⟨O, 6, none⟩ (.slice p5 o5.length f5)).alloc (.cells #[.string fa, .string fb, .int .i64 fn, .int .u64 fq, .int .i64 ft, .bool fl, .slice p5 o5.length f5] 49)).grownBy w8 (Value.slice p' fs.length c').ownBlock →
              TlSt W.heap.size W (.slice (some ⟨g7, 0, none⟩) (fs.length + 1) c7) (fs ++ [⟨fa, fb, ⟨fn, fq, ft, fl, p5, f5, o5⟩⟩]) w8 ∧ (fs ++ [(⟨fa, fb, ⟨fn, fq, ft, fl, p5, f5, o5⟩⟩ : Fd)]).map Fd.fnd = freeW L ((fo.map Fd.fnd).take (i + 1))) := fun g7 c7 w8 hst hg => by
            refine ⟨HI.out.1.push hb7 ⟨fa, fb, ⟨fn, fq, ft, fl, p5, f5, o5⟩⟩ hJ7 HWR3.out.size (fitX_same ho5 HEF.out.1) hst hg, ?_⟩
            rw [HTK.out, freeW_out L _ _ HB.out, ← HI.out.2, List.map_append]
            have hx : (⟨fa, fb, ⟨fn, fq, ft, fl, p5, f5, o5⟩⟩ : Fd).fnd = (⟨fa, fb, ⟨fn, fq, ft, fl, fp, fc, fx⟩⟩ : Fd).fnd := by
              simp only [Fd.fnd, Vx.ver]
              rw [ho5]
            rw [List.map_singleton, hx]
          clear hJ5 ho5 hb5 hk5 hb6 hb7 hJ7 s0 s1 s2 s3 s4 s5 s6 s7 HC
          go_wp2_with (at_builtin; refine wpList_push KFd rfl _ _ 30 rfl i0 _ 88 Try.underlying30 HI0.out hz0 hz1 hz2 rfl W.heap.size W _ fs rfl HROW.out ⟨fa, fb, ⟨fn, fq, ft, fl, p5, f5, o5⟩⟩ _ _ _ rfl rfl _ _ HN7.out (by unfold maxLen; omega) (by omega) ?_; intro g8 c8 w8 hst8 hg8 _; have HS8 := hid (HPU.out _ _ _ hst8 hg8); clear hst8 hg8)
          go_roundg (fo.length - (i + 1))
          case measure => omega
          exact ⟨i + 1, some ⟨g8, 0, none⟩, c8, fs ++ [⟨fa, fb, ⟨fn, fq, ft, fl, p5, f5, o5⟩⟩], by go_num, by rw [List.length_append]; rfl, by omega, by omega, by rw [List.length_append]; simp; omega, by rw [List.length_append]; exact HS8.out⟩
    · have hltz : ¬ (i : Int) < (fo.length : Int) := by omega
      have hti : (fo.map Fd.fnd).take i = fo.map Fd.fnd := List.take_of_length_le (by rw [List.length_map]; omega)
      rw [hti] at HI
      go_wp2_with fail
      go_ret
      exact ⟨_, fs, rfl, HI.out⟩

end Go.Proofs.Ytjehjjpdicimhaa
