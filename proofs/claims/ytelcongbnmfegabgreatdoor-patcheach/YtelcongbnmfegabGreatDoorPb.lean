/-
  Texts of this claim, one behind the other: Tex Joa Job Stbc Stc Std Ste Stf Joc Nor Par Ltb Uni Enc0 Enc Grp Rs0 Edm.
-/
import Derived.Test.YtelcongbnmfegabGreatDoorPa
import Derived.Sort.WalkB2
import Derived.Sort.WalkB12
import Derived.Deep.LoopGhost
import Derived.Deep.CutRange
import Derived.Lib.AppendStr
/-
  The contracts of slices.Clone of texts, and of Texts.
-/
namespace Go.Proofs.YtelcongbnmfegabGreatDoor
open Go.RowKit

theorem cloneT_any (p : Option Addr) (cap : Nat) (ts : List ByteArray) (w : World) (h : TxtAt w p ts) (hs : ts.length * 16 ≤ 140737488355328) :
    Calls Tryz.prog 49 #[.slice p ts.length cap] w fun e w' => ∃ v, e = .returned v ∧ OwnT w.heap.size w' v ts ∧ Below w.heap.size w w' := by
  rcases h with rfl | ⟨b, off, rfl, hc⟩
  · cases p with
    | none =>
      refine (Tryz.slices_Clone_string_nil 0 cap w).mono ?_
      rintro e w' ⟨rfl, rfl⟩
      exact ⟨_, rfl, World.ownsRow_nil _ _ _ _, Below.refl _ _⟩
    | some a =>
      refine (Tryz.slices_Clone_string_zero a cap w).mono ?_
      rintro e w' ⟨v, rfl, ho, _, hb⟩
      exact ⟨_, rfl, ho, hb⟩
  · refine (Tryz.slices_Clone_string b off ts.length cap ts w (Nat.le_refl _) hs (fun j hj => ?_)).mono ?_
    · rw [hc j hj, List.getD_eq_getElem?_getD, List.getElem?_eq_getElem hj]; rfl
    · rintro e w' ⟨v, rfl, ho, _, hb⟩
      rw [List.take_length] at ho
      exact ⟨_, rfl, ho, hb⟩

/-- The texts of the first field of that name. -/
def textsOf (fs : List Fld) (n : ByteArray) : List ByteArray := ((fs.find? fun f => decide (f.1 = n)).map (·.2)).getD []

theorem textsOf_at (fs : List Fld) (n : ByteArray) (i : Nat) (hi : i < fs.length) (hn : ∀ j (h : j < i), (fs[j]'(by omega)).1 ≠ n) (he : fs[i].1 = n) : textsOf fs n = fs[i].2 := by
  unfold textsOf
  have : fs.find? (fun f => decide (f.1 = n)) = some fs[i] := by
    rw [List.find?_eq_some_iff_getElem]
    refine ⟨by simpa using he, i, hi, rfl, fun j hj => ?_⟩
    simpa using hn j hj
  rw [this]; rfl

theorem textsOf_no (fs : List Fld) (n : ByteArray) (hn : ∀ j (h : j < fs.length), fs[j].1 ≠ n) : textsOf fs n = [] := by
  unfold textsOf
  have : fs.find? (fun f => decide (f.1 = n)) = none := by
    rw [List.find?_eq_none]
    intro f hf
    obtain ⟨j, hj, rfl⟩ := List.mem_iff_getElem.1 hf
    simpa using hn j hj
  rw [this]; rfl

def TxPost (w : World) (ts : List ByteArray) (e : Ending) (w' : World) : Prop := (∃ v, e = .returned v ∧ OwnT w.heap.size w' v ts) ∧ Below w.heap.size w w'

set_option maxHeartbeats 4000000 in
set_option maxRecDepth 100000 in
theorem texts_any (v : Value) (nm : ByteArray) (d : List Fx) (w : World) (hv : IsXs w v d) (hf : FitX d) (h16 : ∀ x ∈ d, x.txt.length * 16 ≤ 140737488355328) :
    Calls Tryz.prog 23 #[v, .string nm] w fun e w' => TxPost w (textsOf (d.map Fx.fld) nm) e w' := by
  obtain ⟨p, cap, rfl, hd, ht⟩ := hv
  have HT := hid ht
  have HD := hid hd
  have H16 := hid h16
  have hl := hf.1
  unfold maxLen at hl
  clear ht hd hf h16
  go_enter Tryz.func23, Tryz.ntmps23
  go_wp2_with fail
  go_loopg [9] d.length (fun g vi wr => ∃ i : Nat, vi = .int .i64 i ∧ i ≤ d.length ∧ d.length - i ≤ g ∧ Grown w wr ∧ Hid (∀ j (h : j < d.length), j < i → d[j].name ≠ nm))
  case atStart => exact ⟨0, rfl, by omega, by omega, Grown.refl _, fun j _ h => by omega⟩
  case round =>
    obtain ⟨i, rfl, hi, hg, hb, HJ⟩ := hrel
    by_cases hlt : i < d.length
    · have hltz : (i : Int) < (d.length : Int) := by omega
      have hiz : (0 : Int) ≤ i := by omega
      obtain ⟨b, off, rfl, hxs⟩ : ∃ b off, p = some ⟨b, off, none⟩ ∧ XsAt w b off d := by
        rcases HD.out with h | h
        · subst h; simp at hlt
        · exact h
      obtain ⟨c0, c1⟩ := hxs.kept hb.below i hlt
      have hxi : (d[i]).at w := HT.out _ (List.getElem_mem hlt)
      have hs16 := H16.out _ (List.getElem_mem hlt)
      have hyes : d[i].name = nm → textsOf (d.map Fx.fld) nm = d[i].txt := fun e => by
        have := textsOf_at (d.map Fx.fld) nm i (by rw [List.length_map]; exact hlt) (fun j hj => by simp only [List.getElem_map]; exact HJ.out j (by omega) hj) (by simp only [List.getElem_map]; exact e)
        simpa [Fx.fld] using this
      have hnx : d[i].name ≠ nm → ∀ j (h : j < d.length), j < i + 1 → d[j].name ≠ nm := fun e j h hj => by
        by_cases ej : j = i
        · subst ej; exact e
        · exact HJ.out j h (by omega)
      obtain ⟨x, hx⟩ : ∃ x, d[i] = x := ⟨_, rfl⟩
      rw [hx] at c0 c1 hxi hs16 hyes hnx
      have HXI := hid hxi
      have HYES := hid hyes
      have HNX := hid hnx
      clear hxs hxi hx hyes hnx
      unfold Fx.sl at c1
      have hgW : Grown w (wr.alloc (.cells #[.string x.name, .slice x.p x.txt.length x.cap] 35)) := hb.alloc _
      have HGW := hid hgW
      have HCL := hid (cloneT_any x.p x.cap x.txt _ (HXI.out.kept hgW.below) hs16)
      clear hgW
      cases hq : (x.name.toList == nm.toList) with
      | true =>
        have hq2 : x.name = nm := by rw [toList_eq, decide_eq_true_eq] at hq; exact hq
        have HQ := hid (HYES.out hq2)
        clear hq2
        go_wp2_with (first | (go_at_call 49; refine HCL.out.mono ?_; rintro e w2 ⟨u, rfl, ho, hb2⟩))
        go_ret
        refine ⟨⟨_, rfl, ?_⟩, HGW.out.below.trans (hb2.mono HGW.out.below.size)⟩
        rw [HQ.out]
        exact own_weak ho HGW.out.below.size
      | false =>
        have hq2 : x.name ≠ nm := by rw [toList_eq, decide_eq_false_iff_not] at hq; exact hq
        have HQ := hid (HNX.out hq2)
        clear hq2
        go_wp2_with fail
        go_roundg (d.length - (i + 1))
        case measure => omega
        exact ⟨i + 1, by go_num, by omega, by omega, HGW.out, HQ.out⟩
    · have hltz : ¬ (i : Int) < (d.length : Int) := by omega
      have H0 : Hid (textsOf (d.map Fx.fld) nm = []) := textsOf_no _ _ (fun j hj => by
        rw [List.length_map] at hj
        simp only [List.getElem_map]
        exact HJ.out j hj (by omega))
      go_wp2_with fail
      go_ret
      refine ⟨⟨_, rfl, ?_⟩, hb.below⟩
      rw [H0.out]
      exact World.ownsRow_nil _ _ _ _

end Go.Proofs.YtelcongbnmfegabGreatDoor

/-
  Fields of one name taken as one: the plain mathematics, and the memory that joined works on.
-/
namespace Go.Proofs.YtelcongbnmfegabGreatDoor
open Go.RowKit Go.Sort Go.Lib

/-- One field more: its texts behind those of the last field, if that has its name. -/
def joinStep (o : List Fld) (f : Fld) : List Fld :=
  match o.getLast? with
  | some l => if l.1 = f.1 then o.dropLast ++ [(l.1, l.2 ++ f.2)] else o ++ [f]
  | none => [f]
def joinS (fs : List Fld) : List Fld := fs.foldl joinStep []
def totF (fs : List Fld) : Nat := (fs.map fun f => f.2.length).sum

theorem joinStep_nil (f : Fld) : joinStep [] f = [f] := rfl
theorem joinStep_same (o : List Fld) (l f : Fld) (h : l.1 = f.1) : joinStep (o ++ [l]) f = o ++ [(l.1, l.2 ++ f.2)] := by
  simp [joinStep, h]
theorem joinStep_other (o : List Fld) (l f : Fld) (h : l.1 ≠ f.1) : joinStep (o ++ [l]) f = o ++ [l] ++ [f] := by
  simp [joinStep, h]
theorem joinS_snoc (fs : List Fld) (f : Fld) : joinS (fs ++ [f]) = joinStep (joinS fs) f := by simp [joinS]

theorem totF_append (a b : List Fld) : totF (a ++ b) = totF a + totF b := by simp [totF]
theorem totF_one (f : Fld) : totF [f] = f.2.length := by simp [totF]
theorem totF_step (o : List Fld) (f : Fld) : totF (joinStep o f) = totF o + f.2.length := by
  rcases List.eq_nil_or_concat o with rfl | ⟨o', l, rfl⟩
  · rw [joinStep_nil, totF_one]; simp [totF]
  · rw [List.concat_eq_append]
    by_cases h : l.1 = f.1
    · rw [joinStep_same _ _ _ h, totF_append, totF_append, totF_one, totF_one, List.length_append]; omega
    · rw [joinStep_other _ _ _ h, totF_append, totF_one]
theorem totF_joinS (fs : List Fld) : totF (joinS fs) = totF fs := by
  have : ∀ (l o : List Fld), totF (l.foldl joinStep o) = totF o + totF l := by
    intro l
    induction l with
    | nil => intro o; simp [totF]
    | cons f l ih =>
      intro o
      rw [List.foldl_cons, ih, totF_step]
      have : totF (f :: l) = f.2.length + totF l := by simp [totF]
      omega
  have h := this fs []
  simpa [joinS, totF] using h
theorem joinStep_len (o : List Fld) (f : Fld) : (joinStep o f).length ≤ o.length + 1 := by
  rcases List.eq_nil_or_concat o with rfl | ⟨o', l, rfl⟩
  · simp [joinStep_nil]
  · rw [List.concat_eq_append]
    by_cases h : l.1 = f.1
    · rw [joinStep_same _ _ _ h]; simp
    · rw [joinStep_other _ _ _ h]; simp
theorem joinS_len (fs : List Fld) : (joinS fs).length ≤ fs.length := by
  have : ∀ (l o : List Fld), (l.foldl joinStep o).length ≤ o.length + l.length := by
    intro l
    induction l with
    | nil => intro o; simp
    | cons f l ih =>
      intro o
      rw [List.foldl_cons, List.length_cons]
      have h1 := ih (joinStep o f)
      have h2 := joinStep_len o f
      omega
  have h := this fs []
  simpa [joinS] using h
theorem totF_mem {fs : List Fld} {f : Fld} (h : f ∈ fs) : f.2.length ≤ totF fs := by
  obtain ⟨a, b, rfl⟩ := List.append_of_mem h
  have : totF (a ++ f :: b) = totF a + (f.2.length + totF b) := by simp [totF]
  omega

/-- The rows of texts of unlike fields are unlike rows. -/
def Apart (o : List Fx) : Prop := o.Pairwise fun x y => x.sl.ownBlock = none ∨ x.sl.ownBlock ≠ y.sl.ownBlock
def OwnJ (N : Nat) (w : World) (v : Value) (o : List Fx) : Prop := OwnXs N w v o ∧ Apart o

theorem OwnJ.on {N : Nat} {w w' : World} {v : Value} {o : List Fx} (h : OwnJ N w v o) (hb : Below w.heap.size w w') : OwnJ N w' v o := ⟨h.1.on hb, h.2⟩

theorem apart_snoc {o : List Fx} {x : Fx} (h : Apart o) (hx : ∀ y ∈ o, y.sl.ownBlock = none ∨ y.sl.ownBlock ≠ x.sl.ownBlock) : Apart (o ++ [x]) := by
  unfold Apart
  rw [List.pairwise_append]
  exact ⟨h, List.pairwise_singleton _ _, fun a ha b hb => by rw [List.mem_singleton] at hb; subst hb; exact hx a ha⟩

theorem apart_init {o : List Fx} {x : Fx} (h : Apart (o ++ [x])) : Apart o ∧ ∀ y ∈ o, y.sl.ownBlock = none ∨ y.sl.ownBlock ≠ x.sl.ownBlock := by
  unfold Apart at h
  rw [List.pairwise_append] at h
  exact ⟨h.1, fun y hy => h.2.2 y hy x (by simp)⟩

/-- A row of bytes, texts or fields, by what it is a row of. -/
theorem own_type {w : World} {n0 : Nat} {e : TypeId} {size : Nat} {v : Value} {n : Nat} {xs : List Value} {k : Nat} (h : w.ownsRow n0 e size v n xs) (hk : v.ownBlock = some k) : ∃ cs, w.heap[k]? = some (.cells cs e (0, 0)) := by
  rcases h.2 with ⟨rfl, _⟩ | ⟨g, cap, cur, rfl, _, hg, _⟩
  · cases hk
  · have : g = k := by simpa [Value.ownBlock] using hk
    subst this
    exact ⟨cur, hg⟩

/-- Whatever row of another kind stands while texts are appended. -/
theorem own_else {w w' : World} {n0 m0 : Nat} {e e' : TypeId} {size size' : Nat} {v u : Value} {n m : Nat} {xs ys : List Value} (h : w.ownsRow n0 e size v n xs) (hu : w.ownsRow m0 e' size' u m ys) (hne : e ≠ e') (hg : w.grownBy w' u.ownBlock) : w'.ownsRow n0 e size v n xs := by
  refine h.kept hg ?_
  rcases hv : v.ownBlock with _ | k
  · exact Or.inl rfl
  · right
    intro e2
    obtain ⟨cs, h1⟩ := own_type h hv
    obtain ⟨cs', h2⟩ := own_type hu e2.symm
    rw [h1] at h2
    injection h2 with h2
    injection h2 with _ h2
    exact hne h2

/-- The last field's texts have grown: what its row, and the rows of the others, are now. -/
theorem joined_grown {N : Nat} {w w4 : World} {o : List Fx} {x : Fx} {ts : List ByteArray} {g cap go cp : Nat} (h : OwnJ N w (.slice (some ⟨go, 0, none⟩) (o.length + 1) cp) (o ++ [x]))
    (hown : w4.ownsRow N 9 1 (.slice (some ⟨g, 0, none⟩) (x.txt.length + ts.length) cap) (x.txt.length + ts.length) (x.txt.map Value.string ++ ts.map Value.string))
    (hg : w.grownBy w4 x.sl.ownBlock) (hat : x.sl.ownBlock = some g ∨ g = w.heap.size) :
    w4.cell? ⟨go, o.length * 2 + 1, none⟩ = some x.sl ∧ w4.frozen? ⟨go, o.length * 2 + 1, none⟩ = false ∧
      OwnJ N (w4.setCell ⟨go, o.length * 2 + 1, none⟩ (.slice (some ⟨g, 0, none⟩) (x.txt.length + ts.length) cap)) (.slice (some ⟨go, 0, none⟩) (o.length + 1) cp) (o ++ [⟨x.name, some ⟨g, 0, none⟩, cap, x.txt ++ ts⟩]) := by
  obtain ⟨⟨hrow, htx⟩, hap⟩ := h
  obtain ⟨hap1, hap2⟩ := apart_init hap
  have hx := htx x (by simp)
  have hrow4 : w4.ownsRow N 35 2 (.slice (some ⟨go, 0, none⟩) (o.length + 1) cp) (o ++ [x]).length (cellsX (o ++ [x])) := own_else hrow hx (by decide) hg
  have hlen : (o ++ [x]).length = o.length + 1 := by simp
  rw [hlen] at hrow4
  have hget := cellsX_get (o ++ [x]) o.length (by simp)
  simp only [List.getElem_concat_length] at hget
  have c1 : w4.cell? ⟨go, o.length * 2 + 1, none⟩ = some x.sl := by rw [hrow4.cellAt _ (by omega)]; exact hget.2
  refine ⟨c1, hrow4.frozenAt _, ⟨?_, ?_⟩, ?_⟩
  · have hst := hrow4.stored (o.length * 2 + 1) (.slice (some ⟨g, 0, none⟩) (x.txt.length + ts.length) cap)
    have e1 : (cellsX (o ++ [x])).set (o.length * 2 + 1) (.slice (some ⟨g, 0, none⟩) (x.txt.length + ts.length) cap) = cellsX (o ++ [⟨x.name, some ⟨g, 0, none⟩, cap, x.txt ++ ts⟩]) := by
      rw [cellsX_append, cellsX_append, List.set_append_right _ _ (by rw [cellsX_len]; omega), cellsX_len]
      simp [cellsX, encX, Fx.sl]
    rw [e1] at hst
    rw [List.length_append]
    exact hst.1
  · intro y hy
    have hset : w4.grownBy (w4.setCell ⟨go, o.length * 2 + 1, none⟩ (.slice (some ⟨g, 0, none⟩) (x.txt.length + ts.length) cap)) (Value.slice (some ⟨go, 0, none⟩) (o.length + 1) cp).ownBlock := grown_set w4 go _ _
    rw [List.mem_append, List.mem_singleton] at hy
    rcases hy with hy | rfl
    · have hy0 := htx y (by simp [hy])
      have hy4 : w4.ownsRow N 9 1 y.sl y.txt.length (y.txt.map Value.string) := hy0.kept hg (hap2 y hy)
      exact own_else hy4 hrow4 (by decide) hset
    · have : w4.ownsRow N 9 1 (.slice (some ⟨g, 0, none⟩) (x.txt.length + ts.length) cap) (x.txt ++ ts).length ((x.txt ++ ts).map Value.string) := by
        rw [List.length_append, List.map_append]; exact hown
      show World.ownsRow _ N 9 1 (.slice (some ⟨g, 0, none⟩) (x.txt ++ ts).length cap) (x.txt ++ ts).length ((x.txt ++ ts).map Value.string)
      rw [List.length_append] at this ⊢
      exact own_else this hrow4 (by decide) hset
  · refine apart_snoc hap1 fun y hy => ?_
    have hy0 := htx y (by simp [hy])
    show y.sl.ownBlock = none ∨ y.sl.ownBlock ≠ some g
    rcases hat with hat | hat
    · rw [← hat]; exact hap2 y hy
    · rcases hb : y.sl.ownBlock with _ | k
      · exact Or.inl rfl
      · right
        have := (World.ownsRow.lt hy0 k hb).2
        intro e
        simp at e; omega

end Go.Proofs.YtelcongbnmfegabGreatDoor

/-
  The contracts of slices.Clone of fields, and of joined.
-/
namespace Go.Proofs.YtelcongbnmfegabGreatDoor
open Go.RowKit Go.Sort Go.Lib

theorem xs_cells {w : World} {b off : Nat} {d : List Fx} (h : XsAt w b off d) : ∀ j u, (cellsX d)[j]? = some u → w.cell? ⟨b, off + j, none⟩ = some u := by
  intro j u hj
  have hjl := (List.getElem?_eq_some_iff.1 hj).1
  rw [cellsX_len] at hjl
  obtain ⟨c0, c1⟩ := h (j / 2) (by omega)
  obtain ⟨g0, g1⟩ := cellsX_get d (j / 2) (by omega)
  rcases Nat.mod_two_eq_zero_or_one j with h2 | h2
  · have e : j / 2 * 2 = j := by omega
    rw [e] at c0 g0
    rw [g0] at hj
    rw [c0]; exact hj
  · have e : j / 2 * 2 + 1 = j := by omega
    rw [show off + j / 2 * 2 + 1 = off + j by omega] at c1
    rw [e] at g1
    rw [g1] at hj
    rw [c1]; exact hj

set_option maxHeartbeats 2000000 in
set_option maxRecDepth 100000 in
theorem cloneX_any (v : Value) (d : List Fx) (w : World) (hv : IsXs w v d) (hs : d.length * 40 ≤ 140737488355328) :
    Calls Tryz.prog 62 #[v] w fun e w' => ∃ u, e = .returned u ∧ w'.ownsRow w.heap.size 35 2 u d.length (cellsX d) ∧ Below w.heap.size w w' := by
  obtain ⟨i0, hi, hz0, hz1, hz2⟩ := info_parts Tryz.infoFld
  obtain ⟨p, cap, rfl, hd, _⟩ := hv
  have q22 : ∀ (w : World) (a : Option Addr) (n c n' c' : Nat), (binOp .eql 22 (.slice a n c) (.slice none n' c')).run Tryz.prog w = .ok (.bool a.isNone) w := fun w a n c n' c' => Lib.run_eql_slice_nil w _ _ a n c n' c' Tryz.underlying22
  have HD := hid hd
  clear hd
  cases p with
  | none =>
    have h0 : d = [] := by
      rcases HD.out with h | ⟨b, off, h, _⟩
      · exact h
      · cases h
    subst h0
    go_enter Tryz.func62, Tryz.ntmps62
    go_wp2_with fail
    go_ret
    exact ⟨_, rfl, World.ownsRow_nil _ _ _ _, Below.refl _ _⟩
  | some a =>
    have hcells : ∀ j u, (cellsX d)[j]? = some u → (w.alloc (.cells #[] 35)).cell? (a.add j) = some u := by
      rcases HD.out with h | ⟨b, off, h, hx⟩
      · subst h; intro j u hj; simp [cellsX] at hj
      · intro j u hj
        obtain rfl : a = ⟨b, off, none⟩ := by simpa using h
        rw [addr_add]
        have := xs_cells hx j u hj
        rw [World.cell?_alloc_lt _ _ ⟨b, off + j, none⟩ (cell_block this)]; exact this
    have HC := hid hcells
    clear hcells
    go_enter Tryz.func62, Tryz.ntmps62
    go_wp2_with (at_builtin; refine wpList_append_own _ rfl _ _ 22 rfl w.heap.size 35 i0 (.agg #[.string ⟨#[]⟩, .slice none 0 0]) 2 40 Tryz.underlying22 hi hz0 hz1 hz2 rfl (by decide) _ _ _ rfl (World.ownsRow_made w #[] 0 (Nat.le_refl _) (Nat.zero_le _) (by simp)) a d.length cap (cellsX d) rfl ?c0 ?c1 ?c2 ?c3 ?c4 ?c5 ?_)
    case c0 => exact cellsX_len d
    case c1 => exact HC.out
    case c2 => exact cellsX_one d
    case c3 => unfold maxLen; omega
    case c4 => omega
    case c5 => simp
    intro v' w1 hown hgrow hnil
    have hb1 : Below w.heap.size w w1 := ((Below.refl _ w).alloc (Nat.le_refl _) _).grown hgrow (by simp) (by intro k hk; simp [Value.ownBlock] at hk; omega)
    have HO : Hid (w1.ownsRow w.heap.size 35 2 v' d.length (cellsX d)) := hid (by simpa using hown)
    clear hown hgrow hnil
    go_wp2_with fail
    go_ret
    exact ⟨_, rfl, HO.out, hb1⟩

theorem flat_get (l : List Fx) (t : Nat) (h : t < l.length * 2) : (l.flatMap encX)[t]? = some (encX (l[t / 2]!))[t % 2]! := by
  induction l generalizing t with
  | nil => simp at h
  | cons x l ih =>
    rw [List.flatMap_cons]
    by_cases h2 : t < 2
    · rcases (show t = 0 ∨ t = 1 by omega) with rfl | rfl <;> simp [encX]
    · obtain ⟨u, rfl⟩ : ∃ u, t = u + 2 := ⟨t - 2, by omega⟩
      have hl : (encX x).length = 2 := rfl
      rw [List.getElem?_append_right (by omega), hl, show u + 2 - 2 = u by omega, ih u (by simp at h; omega), show (u + 2) / 2 = u / 2 + 1 by omega, show (u + 2) % 2 = u % 2 by omega]
      simp

theorem holds_of_heap {w : World} {g : Nat} {cur : Array Value} {e : TypeId} (d : Array Fx) (hheap : w.heap[g]? = some (.cells cur e (0, 0))) (htake : cur.toList.take (d.size * 2) = cellsX d.toList) : HoldsK encX 2 w g 0 d := by
  intro j hj
  rw [size_flatK] at hj
  have hg := flat_get d.toList j (by simpa using hj)
  have h1 : (cur.toList.take (d.size * 2))[j]? = some (encX (d.toList[j / 2]!))[j % 2]! := by rw [htake]; exact hg
  rw [List.getElem?_take_of_lt hj] at h1
  rw [get_flatK _ _ _ _ hj]
  constructor
  · simp only [World.cell?, hheap, Nat.zero_add]
    have he : d.toList[j / 2]! = d[j / 2]! := by
      rw [getElem!_pos d (j / 2) (by omega), getElem!_pos d.toList (j / 2) (by simp; omega)]; simp
    rw [← Array.getElem?_toList, h1, he]
    rfl
  · simp [World.frozen?, hheap]

theorem below_sortWorld {B : Nat} {w0 w : World} (h : Below B w0 w) (hB : B ≤ w.heap.size) (blk off n : Nat) (d : Array Fx) (os : Array Obj) (hb : B ≤ blk) : Below B w0 (sortWorldK encX 2 w blk off n d os) := by
  refine h.trans ⟨rfl, rfl, rfl, ?_, ?_⟩
  · simp [sortWorldK, putRowK]
  · intro k hk
    have hks : k < w.heap.size := by omega
    simp only [sortWorldK, Sort.grow, putRowK, putRow, mapBlock, Sort.ahead]
    rw [Array.getElem?_append_left (by simpa using hks), Array.getElem?_modify, if_neg (by omega)]

/-- What the sort of a row leaves, as fields. -/
theorem sorted_xs {w w' : World} {g : Nat} {d : Array Fx} (hH : HoldsK encX 2 w g 0 d) (hg : g < w.heap.size) (h : Sorts w g 0 d w') : ∃ d' : List Fx, d'.length = d.size ∧ XsAt w' g 0 d' ∧ d'.Perm d.toList ∧ (d'.Pairwise fun x y => ltOf cmpF y x = false) ∧ (∀ c, d'.filter (fun x => decide (x.name = c)) = d.toList.filter fun x => decide (x.name = c)) := by
  obtain ⟨e, n, os, hp, hs, hst, rfl⟩ := h
  have hsz : e.size = d.size := hp.1
  have hH2 : HoldsK encX 2 (sortWorldK encX 2 w g 0 n e os) g 0 e := by
    exact holdsK_grow encX 2 _ os g 0 _ (by simpa [putRowK] using hg) (holdsK_putRowK encX 2 (Sort.ahead w n) g 0 _ _ (holdsK_ahead encX 2 w n g 0 _ hH) hsz)
  refine ⟨e.toList, by simpa using hsz, fun i hi => ?_, ?_, ?_, hst⟩
  · have hi' : i < e.size := by simpa using hi
    have k0 := (hH2.cell (i := i) (c := 0) hi' (by simp)).1
    have k1 := (hH2.cell (i := i) (c := 1) hi' (by simp)).1
    have he : e[i]! = e.toList[i] := by rw [getElem!_pos e i hi']; simp
    rw [he] at k0 k1
    exact ⟨by simpa [encX] using k0, by simpa [encX, Nat.add_assoc] using k1⟩
  · have := hp.2.2
    have e1 : e.extract 0 d.size = e := by rw [← hsz]; simp
    have e2 : d.extract 0 d.size = d := by simp
    rw [e1, e2] at this
    exact this
  · rw [List.pairwise_iff_getElem]
    intro i j hi hj hij
    have hi' : i < e.size := by simpa using hi
    have hj' : j < e.size := by simpa using hj
    have := hs i j (Nat.zero_le _) hij (by omega)
    rw [getElem!_pos e i hi', getElem!_pos e j hj'] at this
    simpa using this

end Go.Proofs.YtelcongbnmfegabGreatDoor

/-
  The plain mathematics of a stable sort by blocks: sorted blocks, merged two by two.
-/
namespace Go.Proofs.YtelcongbnmfegabGreatDoor
open Go.Sort
set_option linter.unusedSectionVars false
variable {α : Type} [Inhabited α] {κ : Type} [DecidableEq κ]

/-- The same elements, equals in their order. -/
def Way (K : α → κ) (d dk : Array α) : Prop := PermIn 0 d.size d dk ∧ Stab K d dk

theorem Way.refl (K : α → κ) (d : Array α) : Way K d d := ⟨permIn_refl _ _ _, Stab.refl K d⟩
theorem Way.size {K : α → κ} {d dk : Array α} (h : Way K d dk) : dk.size = d.size := h.1.1

theorem Way.step {K : α → κ} {d dk dl : Array α} {a b : Nat} (h : Way K d dk) (p : PermIn a b dk dl) (hb : b ≤ d.size) (s : Stab K dk dl) : Way K d dl := by
  have e : dk.size = d.size := h.1.1
  exact ⟨permIn_trans _ _ _ _ _ h.1 (permIn_mono _ _ _ _ _ _ (Nat.zero_le _) hb (Nat.le_of_eq e.symm) p), h.2.trans s⟩

/-- The first q blocks of c are sorted. -/
def SegTo (lt : α → α → Bool) (c q : Nat) (d : Array α) : Prop := ∀ t, t < q → SortedIn lt (t * c) (t * c + c) d
/-- The blocks of c are sorted, from place a on up to n. -/
def SegFrom (lt : α → α → Bool) (c a n : Nat) (d : Array α) : Prop := ∀ t, SortedIn lt (a + t * c) (min (a + t * c + c) n) d

theorem sorted_out {lt : α → α → Bool} {a b x y : Nat} {d d' : Array α} (p : PermIn a b d d') (h : SortedIn lt x y d) (hd : y ≤ a ∨ b ≤ x) : SortedIn lt x y d' := fun i j h1 h2 h3 => by
  rw [p.2.1 i (by omega), p.2.1 j (by omega)]
  exact h i j h1 h2 h3

theorem sorted_mono {lt : α → α → Bool} {a b x y : Nat} {d : Array α} (h : SortedIn lt a b d) (h1 : a ≤ x) (h2 : y ≤ b) : SortedIn lt x y d := fun i j k1 k2 k3 => h i j (by omega) k2 (by omega)

theorem segTo_zero (lt : α → α → Bool) (c : Nat) (d : Array α) : SegTo lt c 0 d := fun _ ht => absurd ht (Nat.not_lt_zero _)

theorem blk_le {t q : Nat} (c : Nat) (h : t < q) : t * c + c ≤ q * c := by
  have := Nat.mul_le_mul_right c (show t + 1 ≤ q from h)
  rwa [Nat.add_mul, Nat.one_mul] at this

theorem SegTo.step {lt : α → α → Bool} {c q : Nat} {d d' : Array α} (h : SegTo lt c q d) (p : PermIn (q * c) (q * c + c) d d') (s : SortedIn lt (q * c) (q * c + c) d') : SegTo lt c (q + 1) d' := fun t ht => by
  by_cases e : t < q
  · exact sorted_out p (h t e) (Or.inl (blk_le c e))
  · obtain rfl : t = q := by omega
    exact s

theorem SegTo.last {lt : α → α → Bool} {c q n : Nat} {d d' : Array α} (h : SegTo lt c q d) (hn : n < q * c + c) (p : PermIn (q * c) n d d') (s : SortedIn lt (q * c) n d') : SegFrom lt c 0 n d' := fun t => by
  rw [Nat.zero_add]
  rcases Nat.lt_trichotomy t q with e | e | e
  · exact sorted_mono (sorted_out p (h t e) (Or.inl (blk_le c e))) (Nat.le_refl _) (by omega)
  · subst e
    exact sorted_mono s (Nat.le_refl _) (by omega)
  · have := blk_le c e
    intro i j h1 h2 h3
    omega

theorem SegFrom.first {lt : α → α → Bool} {c a n : Nat} {d : Array α} (h : SegFrom lt c a n d) (hn : a + c ≤ n) : SortedIn lt a (a + c) d := by
  have := h 0
  rw [Nat.zero_mul, Nat.add_zero, Nat.min_eq_left hn] at this
  exact this

theorem SegFrom.second {lt : α → α → Bool} {c a n e : Nat} {d : Array α} (h : SegFrom lt c a n d) (h1 : e ≤ a + c + c) (h2 : e ≤ n) : SortedIn lt (a + c) e d := by
  have := h 1
  rw [Nat.one_mul] at this
  exact sorted_mono this (Nat.le_refl _) (by omega)

theorem SegFrom.short {lt : α → α → Bool} {c a n : Nat} {d : Array α} (h : SegFrom lt c a n d) (hn : n ≤ a + c) : SortedIn lt a n d := by
  have := h 0
  rw [Nat.zero_mul, Nat.add_zero, Nat.min_eq_right hn] at this
  exact this

theorem SegFrom.step {lt : α → α → Bool} {c a n : Nat} {d d' : Array α} (h : SegFrom lt c a n d) (p : PermIn a (a + 2 * c) d d') : SegFrom lt c (a + 2 * c) n d' := fun t => by
  have := h (t + 2)
  have e : a + (t + 2) * c = a + 2 * c + t * c := by rw [Nat.add_mul]; omega
  rw [e] at this
  exact sorted_out p this (Or.inr (by omega))

/-- What the rotation of a merge leaves to do. -/
theorem merge_cut {lt : α → α → Bool} {K : α → κ} (hS : SWO lt) (hK : ∀ x y, lt x y = true → K x ≠ K y) {a s m e b mid : Nat} {d d1 : Array α} (h : Rot s m e d d1) (has : a ≤ s) (hsm : s ≤ m) (hme : m ≤ e) (heb : e ≤ b) (hb : b ≤ d.size) (hmid : s + (e - m) = mid)
    (hL : SortedIn lt a m d) (hR : SortedIn lt m b d) (hlow : a < s → e < b → lt d[e]! d[s - 1]! = false) (hhigh : s < m → m < e → lt d[e - 1]! d[s]! = true) :
    SortedIn lt a s d1 ∧ SortedIn lt s mid d1 ∧ (¬ (a < s ∧ s < mid) → Mrg lt K a mid d1 d1) ∧
      (∀ d2, Mrg lt K a mid d1 d2 → SortedIn lt mid e d2 ∧ SortedIn lt e b d2 ∧ (¬ (mid < e ∧ e < b) → Mrg lt K mid b d2 d2) ∧ ∀ d3, Mrg lt K mid b d2 d3 → Mrg lt K a b d d3) := by
  subst hmid
  obtain ⟨_, _, s1, s2, s3, s4, _⟩ := h.merge (K := K) hS hK has hsm hme heb hb hL hR hlow hhigh
  refine ⟨s1, s2, fun hn => Mrg.none ?_, fun d2 m2 => ?_⟩
  · by_cases e1 : a < s
    · rw [show s + (e - m) = s by omega]; exact s1
    · rw [show a = s by omega]; exact s2
  · have t3 := sorted_out m2.1 s3 (Or.inr (Nat.le_refl _))
    have t4 := sorted_out m2.1 s4 (Or.inr (by omega))
    refine ⟨t3, t4, fun hn => Mrg.none ?_, fun d3 m3 => Mrg.of_rot hS hK h has hsm hme heb hb hL hR hlow hhigh m2 m3⟩
    by_cases e1 : s + (e - m) < e
    · rw [show b = e by omega]; exact t3
    · rw [show s + (e - m) = e by omega]; exact t4

theorem Mrg.size {lt : α → α → Bool} {K : α → κ} {a b : Nat} {d d' : Array α} (h : Mrg lt K a b d d') : d'.size = d.size := h.1.1

end Go.Proofs.YtelcongbnmfegabGreatDoor

/-
  The contracts of swapRangeCmpFunc and rotateCmpFunc, of slices, over fields.
-/
namespace Go.Proofs.YtelcongbnmfegabGreatDoor
open Go.RowKit Go.Sort Go.Lib Go.Shelf

/-- The runs of n from a on and from b on have changed places. -/
def Swapd (a b n : Nat) (d dk : Array Fx) : Prop :=
  dk.size = d.size ∧ (∀ t, t < n → dk[a + t]! = d[b + t]!) ∧ (∀ t, t < n → dk[b + t]! = d[a + t]!) ∧ ∀ i, (i < a ∨ a + n ≤ i) → (i < b ∨ b + n ≤ i) → dk[i]! = d[i]!

theorem Swapd.zero (a b : Nat) (d : Array Fx) : Swapd a b 0 d d := ⟨rfl, fun t ht => by omega, fun t ht => by omega, fun _ _ _ => rfl⟩

theorem Swapd.step {a b n : Nat} {d dk : Array Fx} (h : Swapd a b n d dk) (hab : a + n < b) (hb : b + n < d.size) : Swapd a b (n + 1) d (swp dk (a + n) (b + n)) := by
  obtain ⟨h1, h2, h3, h4⟩ := h
  refine ⟨by rw [size_swp, h1], fun t ht => ?_, fun t ht => ?_, fun i hi hj => ?_⟩
  · by_cases e : t = n
    · subst e
      rw [swp_left _ _ _ (by omega) (by omega)]
      exact h4 _ (by omega) (by omega)
    · rw [swp_other _ _ _ _ (by omega) (by omega)]; exact h2 t (by omega)
  · by_cases e : t = n
    · subst e
      rw [swp_right _ _ _ (by omega)]
      exact h4 _ (by omega) (by omega)
    · rw [swp_other _ _ _ _ (by omega) (by omega)]; exact h3 t (by omega)
  · rw [swp_other _ _ _ _ (by omega) (by omega)]
    exact h4 _ (by omega) (by omega)

theorem swk_cells {w0 W : World} {blk off : Nat} {d0 dk : Array Fx} (h : SWK encX 2 w0 blk off dk W) (R : RowK encX 2 w0 blk off d0) (hs : dk.size = d0.size) (i : Nat) (hi : i < dk.size) :
    W.cell? ⟨blk, off + i * 2, none⟩ = some (.string dk[i]!.name) ∧ W.frozen? ⟨blk, off + i * 2, none⟩ = false ∧ W.cell? ⟨blk, off + i * 2 + 1, none⟩ = some dk[i]!.sl ∧ W.frozen? ⟨blk, off + i * 2 + 1, none⟩ = false := by
  have H := h.holds R.hblk R.hH hs
  have e0 := H (i * 2) (by rw [size_flatK]; omega)
  have e1 := H (i * 2 + 1) (by rw [size_flatK]; omega)
  rw [get_flatK _ _ _ _ (by omega)] at e0 e1
  rw [show i * 2 / 2 = i by omega, show i * 2 % 2 = 0 by omega] at e0
  rw [show (i * 2 + 1) / 2 = i by omega, show (i * 2 + 1) % 2 = 1 by omega] at e1
  exact ⟨e0.1, e0.2, e1.1, e1.2⟩

theorem swk_swapped {w0 W : World} {blk off : Nat} {d0 dk : Array Fx} (h : SWK encX 2 w0 blk off dk W) (R : RowK encX 2 w0 blk off d0) (i j : Nat) (hi : i < dk.size) (hj : j < dk.size) :
    SWK encX 2 w0 blk off (swp dk i j) ((((W.drew.setCell ⟨blk, off + i * 2, none⟩ (.string dk[j]!.name)).setCell ⟨blk, off + i * 2 + 1, none⟩ dk[j]!.sl).setCell ⟨blk, off + j * 2, none⟩ (.string dk[i]!.name)).setCell ⟨blk, off + j * 2 + 1, none⟩ dk[i]!.sl) :=
  h.swapped R i j hi hj

theorem cell_other {W : World} {b p q : Nat} {v u : Value} (h : W.cell? ⟨b, q, none⟩ = some u) (hne : p ≠ q) : (W.setCell ⟨b, p, none⟩ v).cell? ⟨b, q, none⟩ = some u := 
  (World.cell?_setCell_other (w := W) (a := ⟨b, p, none⟩) (b := ⟨b, q, none⟩) (v := v) (by intro e; cases e; exact hne rfl)).trans h

set_option maxHeartbeats 4000000 in
set_option maxRecDepth 1000000 in
theorem swapR_any (blk off cap a b n : Nat) (fv : Value) (d0 d : Array Fx) (w0 w : World) (R : RowK encX 2 w0 blk off d0) (hs : d0.size = d.size) (S : SWK encX 2 w0 blk off d w) (hab : a + n ≤ b) (hb : b + n ≤ d.size) (hsz : d.size < 2305843009213693952) :
    Calls Tryz.prog 133 #[.slice (some ⟨blk, off, none⟩) d.size cap, .int .i64 a, .int .i64 b, .int .i64 n, fv] w fun e w' =>
      e = .returned (.tuple #[]) ∧ ∃ dk, SWK encX 2 w0 blk off dk w' ∧ Swapd a b n d dk := by
  have mixed := Tryz.mixed
  have S0 : Aside (SWK encX 2 w0 blk off d w) := S
  have RR : Aside (RowK encX 2 w0 blk off d0) := R
  clear S R
  go_enter Tryz.func133, Tryz.ntmps133
  go_wp2_with fail
  go_loopg [10] n (fun kx s8 wr => ∃ (i : Nat) (dk : Array Fx), s8 = .int .i64 i ∧ i ≤ n ∧ n - i ≤ kx ∧ Aside (Swapd a b i d dk) ∧ Aside (SWK encX 2 w0 blk off dk wr))
  case atStart => exact ⟨0, d, rfl, by omega, by omega, Swapd.zero a b d, S0⟩
  case round =>
    clear S0
    obtain ⟨i, dk, rfl, hi, hkx, HS, S1⟩ := hrel
    by_cases hlt : i < n
    · have hltz : (i : Int) < (n : Int) := by omega
      have hds : dk.size = d.size := HS.out.1
      go_wp2_with fail
      have ea44 : ((a : Int) + (i : Int)).toNat = a + i := by omega
      have pa44 : (0 : Int) ≤ (a : Int) + (i : Int) := by omega
      have ba44 : (a : Int) + (i : Int) < (d.size : Int) := by omega
      have ra44 : IntKind.i64.wrap ((a : Int) + (i : Int)) = (a : Int) + (i : Int) := by rw [IntKind.wrap_i64]; omega
      have ec44 : ((b : Int) + (i : Int)).toNat = b + i := by omega
      have pc44 : (0 : Int) ≤ (b : Int) + (i : Int) := by omega
      have bc44 : (b : Int) + (i : Int) < (d.size : Int) := by omega
      have rc44 : IntKind.i64.wrap ((b : Int) + (i : Int)) = (b : Int) + (i : Int) := by rw [IntKind.wrap_i64]; omega
      obtain ⟨a0, a1, a2, a3⟩ := swk_cells S1.out RR.out (by omega) (a + i) (by omega)
      obtain ⟨b0, b1, b2, b3⟩ := swk_cells S1.out RR.out (by omega) (b + i) (by omega)
      have S2 : Aside _ := swk_swapped S1.out RR.out (a + i) (b + i) (by omega) (by omega)
      generalize dk[a + i]! = x at a0 a2 S2
      generalize dk[b + i]! = y at b0 b2 S2
      unfold Fx.sl at a2 b2 S2
      obtain ⟨p, hp⟩ : ∃ p, off + (a + i) * 2 = p := ⟨_, rfl⟩
      obtain ⟨q, hq⟩ : ∃ q, off + (b + i) * 2 = q := ⟨_, rfl⟩
      have n1 : ¬ p = q := by omega
      have n2 : ¬ q = p := by omega
      have n3 : ¬ p + 1 = q := by omega
      have n4 : ¬ q = p + 1 := by omega
      have n5 : ¬ p = q + 1 := by omega
      have n6 : ¬ q + 1 = p := by omega
      rw [hp] at a0 a1 a2 a3 S2
      rw [hq] at b0 b1 b2 b3 S2
      clear S1
      go_wp2_with fail
      go_big_region_o
      clear a0 a1 a2 a3 b0 b1 b2 b3
      go_wp2_with fail
      go_roundg (n - (i + 1))
      case measure => omega
      case rel => exact ⟨i + 1, swp dk (a + i) (b + i), by go_num, by omega, by omega, HS.out.step (by omega) (by omega), S2⟩
    · have hltz : ¬ (i : Int) < (n : Int) := by omega
      obtain rfl : i = n := by omega
      go_wp2_with fail
      go_end0
      exact ⟨rfl, dk, S1.out, HS.out⟩

set_option maxHeartbeats 4000000 in
set_option maxRecDepth 1000000 in
theorem rotate_any (blk off cap a m b : Nat) (fv : Value) (d0 d : Array Fx) (w0 w : World) (R : RowK encX 2 w0 blk off d0) (hs : d0.size = d.size) (S : SWK encX 2 w0 blk off d w) (ham : a < m) (hmb : m < b) (hb : b ≤ d.size) (hsz : d.size < 2305843009213693952) :
    Calls Tryz.prog 128 #[.slice (some ⟨blk, off, none⟩) d.size cap, .int .i64 a, .int .i64 m, .int .i64 b, fv] w fun e w' =>
      e = .returned (.tuple #[]) ∧ ∃ dk, SWK encX 2 w0 blk off dk w' ∧ Rot a m b d dk := by
  have S0 : Aside (SWK encX 2 w0 blk off d w) := S
  have RR : Aside (RowK encX 2 w0 blk off d0) := R
  clear S R
  have ei : IntKind.i64.wrap ((m : Int) - (a : Int)) = ((m - a : Nat) : Int) := by rw [IntKind.wrap_i64]; omega
  have ej : IntKind.i64.wrap ((b : Int) - (m : Int)) = ((b - m : Nat) : Int) := by rw [IntKind.wrap_i64]; omega
  go_enter Tryz.func128, Tryz.ntmps128
  go_wp2_with fail
  go_loopg [10, 11] (b - a) (fun kx vi vj wr => ∃ (i j : Nat) (dk : Array Fx), vi = .int .i64 i ∧ vj = .int .i64 j ∧ 0 < i ∧ 0 < j ∧ a + i ≤ m ∧ m + j ≤ b ∧ i + j ≤ kx ∧ dk.size = d.size ∧ Aside (∀ d', Rot (m - i) m (m + j) dk d' → Rot a m b d d') ∧ Aside (SWK encX 2 w0 blk off dk wr))
  case atStart => exact ⟨m - a, b - m, d, rfl, rfl, by omega, by omega, by omega, by omega, by omega, rfl, fun d' h => by rw [show m - (m - a) = a by omega, show m + (b - m) = b by omega] at h; exact h, S0⟩
  case round =>
    clear S0
    obtain ⟨i, j, dk, rfl, rfl, hi, hj, hai, hjb, hkx, hds, HR, S1⟩ := hrel
    have emi : IntKind.i64.wrap ((m : Int) - (i : Int)) = ((m - i : Nat) : Int) := by rw [IntKind.wrap_i64]; omega
    rcases Nat.lt_trichotomy i j with hij | hij | hij
    · have hc : ((i : Int) == (j : Int)) = false := beq_eq_false_iff_ne.2 (by omega)
      have hne : ¬ (i : Int) = (j : Int) := by omega
      have hg : ¬ (j : Int) < (i : Int) := by omega
      have e2 : IntKind.i64.wrap ((m : Int) + (j : Int)) = (m : Int) + (j : Int) := by rw [IntKind.wrap_i64]; omega
      have e3 : IntKind.i64.wrap ((m : Int) + (j : Int) - (i : Int)) = ((m + j - i : Nat) : Int) := by rw [IntKind.wrap_i64]; omega
      have e4 : IntKind.i64.wrap ((j : Int) - (i : Int)) = ((j - i : Nat) : Int) := by rw [IntKind.wrap_i64]; omega
      have hc := swapR_any blk off cap (m - i) (m + j - i) i fv d0 dk w0 wr RR.out (by omega) S1.out (by omega) (by omega) (by omega)
      rw [hds] at hc
      have HC := hid hc
      clear hc S1
      go_wp2_with (first | (go_at_call 133; refine HC.out.mono ?_; rintro e w1 ⟨rfl, dl, hsl, hsw⟩; have HSL : Aside _ := hsl; have HSW : Aside _ := hsw; clear hsl hsw))
      go_roundg j
      case measure => omega
      case rel =>
        refine ⟨i, j - i, dl, rfl, rfl, hi, by omega, hai, by omega, by omega, HSW.out.1.trans hds, fun d' h => HR.out d' ?_, HSL⟩
        obtain ⟨k1, k2, k3, k4⟩ := HSW.out
        refine Rot.right (i := i) (dk := dl) (by omega) (by omega) (by omega) (by omega) k1 k2 (fun t ht => ?_) (fun x h1 h2 => k4 x (by omega) (by omega)) (by rw [show m + j - i = m + (j - i) by omega]; exact h)
        exact k3 t ht
    · subst hij
      have hc := swapR_any blk off cap (m - i) m i fv d0 dk w0 wr RR.out (by omega) S1.out (by omega) (by omega) (by omega)
      rw [hds] at hc
      have HC := hid hc
      clear hc S1
      go_wp2_with (first | (go_at_call 133; refine HC.out.mono ?_; rintro e w1 ⟨rfl, dl, hsl, hsw⟩; have HSL : Aside _ := hsl; have HSW : Aside _ := hsw; clear hsl hsw))
      go_end0
      obtain ⟨k1, k2, k3, k4⟩ := HSW.out
      exact ⟨rfl, dl, HSL.out, HR.out dl (Rot.even (i := i) (by omega) (by omega) (by omega) (by omega) k1 k2 k3 k4)⟩
    · have hc0 : ((i : Int) == (j : Int)) = false := beq_eq_false_iff_ne.2 (by omega)
      have hne : ¬ (i : Int) = (j : Int) := by omega
      have hg : (j : Int) < (i : Int) := by omega
      have e4 : IntKind.i64.wrap ((i : Int) - (j : Int)) = ((i - j : Nat) : Int) := by rw [IntKind.wrap_i64]; omega
      have hc := swapR_any blk off cap (m - i) m j fv d0 dk w0 wr RR.out (by omega) S1.out (by omega) (by omega) (by omega)
      rw [hds] at hc
      have HC := hid hc
      clear hc S1
      go_wp2_with (first | (go_at_call 133; refine HC.out.mono ?_; rintro e w1 ⟨rfl, dl, hsl, hsw⟩; have HSL : Aside _ := hsl; have HSW : Aside _ := hsw; clear hsl hsw))
      go_roundg i
      case measure => omega
      case rel =>
        refine ⟨i - j, j, dl, rfl, rfl, by omega, hj, by omega, hjb, by omega, HSW.out.1.trans hds, fun d' h => HR.out d' ?_, HSL⟩
        obtain ⟨k1, k2, k3, k4⟩ := HSW.out
        exact Rot.left (j := j) (dk := dl) (by omega) (by omega) (by omega) (by omega) k1 k2 k3 (fun x h1 h2 => k4 x (by omega) (by omega)) (by rw [show m - i + j = m - (i - j) by omega]; exact h)

end Go.Proofs.YtelcongbnmfegabGreatDoor

/-
  The contract of symMergeCmpFunc of slices, over fields.
-/
namespace Go.Proofs.YtelcongbnmfegabGreatDoor
open Go.RowKit Go.Sort Go.Lib Go.Shelf

theorem swk_in {w0 W : World} {blk off : Nat} {d0 dk : Array Fx} (h : SWK encX 2 w0 blk off dk W) (R : RowK encX 2 w0 blk off d0) (hs : dk.size = d0.size) (i : Nat) (hi : i < dk.size) (n : Nat) (os : Array Obj) :
    (grow (W.drewN n) os).cell? ⟨blk, off + i * 2, none⟩ = some (.string dk[i]!.name) ∧ (grow (W.drewN n) os).cell? ⟨blk, off + i * 2 + 1, none⟩ = some (.slice dk[i]!.p dk[i]!.txt.length dk[i]!.cap) := by
  have := swk_cells (h.grown n os) R hs i hi
  exact ⟨this.1, this.2.2.1⟩

theorem cmp_in (x y : Fx) (W : World) (n : Nat) (os : Array Obj) :
    Calls Tryz.prog 64 #[.agg #[.string x.name, .slice x.p x.txt.length x.cap], .agg #[.string y.name, .slice y.p y.txt.length y.cap]] (grow (W.drewN n) os) fun e w' => e = .returned (.int .i64 (cmpF x y)) ∧ ∃ q os', w' = grow ((grow (W.drewN n) os).drewN q) os' := byName_any x y _

theorem ltF_true {x y : Fx} (h : ltOf cmpF x y = true) : cmpF x y < 0 := of_decide_eq_true h
theorem ltF_false {x y : Fx} (h : ltOf cmpF x y = false) : ¬ cmpF x y < 0 := of_decide_eq_false h

set_option maxHeartbeats 4000000 in
set_option maxRecDepth 1000000 in
theorem sym_left (blk off cap a m b : Nat) (d0 d : Array Fx) (w0 w : World) (R : RowK encX 2 w0 blk off d0) (hs : d0.size = d.size) (S : SWK encX 2 w0 blk off d w) (hm : m = a + 1) (hmb : m < b) (hb : b ≤ d.size) (hsz : d.size < 2305843009213693952) (hR : SortedIn (ltOf cmpF) m b d) :
    Calls Tryz.prog 117 #[.slice (some ⟨blk, off, none⟩) d.size cap, .int .i64 a, .int .i64 m, .int .i64 b, .func (.func 64) #[] #[]] w fun e w' =>
      e = .returned (.tuple #[]) ∧ ∃ dk, SWK encX 2 w0 blk off dk w' ∧ Mrg (ltOf cmpF) Fx.name a b d dk := by
  have mixed := Tryz.mixed
  have eg := enters_byName
  have S0 : Aside (SWK encX 2 w0 blk off d w) := S
  have RR : Aside (RowK encX 2 w0 blk off d0) := R
  have HR := hid hR
  have HM := hid hm
  have e0 : IntKind.i64.wrap ((m : Int) - (a : Int)) = 1 := by rw [IntKind.wrap_i64]; omega
  have ham : a < m := by omega
  clear S R hR hm
  go_enter Tryz.func117, Tryz.ntmps117
  go_wp2_with fail
  go_loopg [10, 11] (b - m) (fun kx vi vj wr => ∃ (i j : Nat), vi = .int .i64 i ∧ vj = .int .i64 j ∧ m ≤ i ∧ i ≤ j ∧ j ≤ b ∧ j - i ≤ kx ∧ Hid (m < i → ltOf cmpF d[i - 1]! d[a]! = true) ∧ Hid (j < b → ltOf cmpF d[j]! d[a]! = false) ∧ Aside (SWK encX 2 w0 blk off d wr))
  case atStart => exact ⟨m, b, rfl, rfl, by omega, by omega, by omega, by omega, fun h => absurd h (Nat.lt_irrefl _), fun h => absurd h (Nat.lt_irrefl _), S0⟩
  case round =>
    clear S0
    obtain ⟨i, j, rfl, rfl, hmi, hij, hjb, hkx, HLO, HHI, S1⟩ := hrel
    by_cases hlt : i < j
    · have hltz : (i : Int) < (j : Int) := by omega
      obtain ⟨h, hh⟩ : ∃ h, (i + j) / 2 = h := ⟨_, rfl⟩
      have hz : ((i : Int) + (j : Int)) / 2 = (h : Int) := by omega
      have h1 : i ≤ h := by omega
      have h2 : h < j := by omega
      clear hh
      go_wp2_with fail
      cases hL : ltOf cmpF d[h]! d[a]! with
      | true =>
        have ea : ((h : Int)).toNat = h := by omega
        have pa : (0 : Int) ≤ (h : Int) := by omega
        have ba : (h : Int) < (d.size : Int) := by omega
        have ec : ((a : Int)).toNat = a := by omega
        have pc : (0 : Int) ≤ (a : Int) := by omega
        have bc : (a : Int) < (d.size : Int) := by omega
        have la := swk_in S1.out RR.out (by omega) (h) (by omega)
        have lb := swk_in S1.out RR.out (by omega) (a) (by omega)
        have hv := ltF_true hL
        have HL := hid hL
        clear hL
        generalize d[h]! = x at la hv
        generalize d[a]! = y at lb hv
        have la0 := fun n os => (la n os).1
        have la1 := fun n os => (la n os).2
        have lb0 := fun n os => (lb n os).1
        have lb1 := fun n os => (lb n os).2
        clear la lb
        have hd : decide (cmpF x y < 0) = true := decide_eq_true hv
        have hc := cmp_in x y wr
        go_wp2_with fail
        go_quiet_grown (first | (go_at_fn 64; refine Calls.grown_of (hc _ _)))
        have S2 : Aside (SWK encX 2 w0 blk off d (grow (wr.drewN nq) osq)) := S1.out.grown nq osq
        clear la0 la1 lb0 lb1 hc S1
        generalize grow (wr.drewN nq) osq = w2 at S2 ⊢
        clear nq osq
        go_wp2_with fail
        go_roundg (j - (h + 1))
        case measure => omega
        case rel => exact ⟨h + 1, j, by go_num, rfl, by omega, by omega, hjb, by omega, fun _ => HL.out, HHI, S2⟩
      | false =>
        have ea : ((h : Int)).toNat = h := by omega
        have pa : (0 : Int) ≤ (h : Int) := by omega
        have ba : (h : Int) < (d.size : Int) := by omega
        have ec : ((a : Int)).toNat = a := by omega
        have pc : (0 : Int) ≤ (a : Int) := by omega
        have bc : (a : Int) < (d.size : Int) := by omega
        have la := swk_in S1.out RR.out (by omega) (h) (by omega)
        have lb := swk_in S1.out RR.out (by omega) (a) (by omega)
        have hv := ltF_false hL
        have HL := hid hL
        clear hL
        generalize d[h]! = x at la hv
        generalize d[a]! = y at lb hv
        have la0 := fun n os => (la n os).1
        have la1 := fun n os => (la n os).2
        have lb0 := fun n os => (lb n os).1
        have lb1 := fun n os => (lb n os).2
        clear la lb
        have hd : decide (cmpF x y < 0) = false := decide_eq_false hv
        have hc := cmp_in x y wr
        go_wp2_with fail
        go_quiet_grown (first | (go_at_fn 64; refine Calls.grown_of (hc _ _)))
        have S2 : Aside (SWK encX 2 w0 blk off d (grow (wr.drewN nq) osq)) := S1.out.grown nq osq
        clear la0 la1 lb0 lb1 hc S1
        generalize grow (wr.drewN nq) osq = w2 at S2 ⊢
        clear nq osq
        go_wp2_with fail
        go_roundg (h - i)
        case measure => omega
        case rel => exact ⟨i, h, rfl, rfl, hmi, h1, by omega, by omega, HLO, fun _ => HL.out, S2⟩
    · have hltz : ¬ (i : Int) < (j : Int) := by omega
      obtain rfl : i = j := by omega
      have e1 : IntKind.i64.wrap ((i : Int) - 1) = ((i - 1 : Nat) : Int) := by rw [IntKind.wrap_i64]; omega
      clear hij hkx hlt
      have SA := S1
      go_wp2_with fail
      go_loopg [13] (b - a) (fun kx vk wr => ∃ (k : Nat) (dk : Array Fx), vk = .int .i64 k ∧ a ≤ k ∧ k ≤ i - 1 ∧ i - 1 - k ≤ kx ∧ dk.size = d.size ∧ Aside (Rot a (a + 1) (k + 1) d dk) ∧ Aside (SWK encX 2 w0 blk off dk wr))
      case atStart => exact ⟨a, d, rfl, by omega, by omega, by omega, rfl, rot_none _ _ _, SA⟩
      case round =>
        clear SA S1
        obtain ⟨k, dk, rfl, hak, hki, hkx, hds, HT, S1⟩ := hrel
        by_cases hlt : k < i - 1
        · have hltz2 : (k : Int) < ((i - 1 : Nat) : Int) := by omega
          go_wp2_with fail
          have ea : ((k : Int)).toNat = k := by omega
          have pa : (0 : Int) ≤ (k : Int) := by omega
          have ba : (k : Int) < (d.size : Int) := by omega
          have ra : IntKind.i64.wrap ((k : Int)) = (k : Int) := by rw [IntKind.wrap_i64]; omega
          have ec : ((k : Int) + 1).toNat = k + 1 := by omega
          have pc : (0 : Int) ≤ (k : Int) + 1 := by omega
          have bc : (k : Int) + 1 < (d.size : Int) := by omega
          have rc : IntKind.i64.wrap ((k : Int) + 1) = (k : Int) + 1 := by rw [IntKind.wrap_i64]; omega
          obtain ⟨a0, a1, a2, a3⟩ := swk_cells S1.out RR.out (by omega) (k) (by omega)
          obtain ⟨b0, b1, b2, b3⟩ := swk_cells S1.out RR.out (by omega) (k + 1) (by omega)
          have S2 : Aside _ := swk_swapped S1.out RR.out (k) (k + 1) (by omega) (by omega)
          generalize dk[k]! = x at a0 a2 S2
          generalize dk[k + 1]! = y at b0 b2 S2
          unfold Fx.sl at a2 b2 S2
          obtain ⟨p, hp⟩ : ∃ p, off + (k) * 2 = p := ⟨_, rfl⟩
          obtain ⟨q, hq⟩ : ∃ q, off + (k + 1) * 2 = q := ⟨_, rfl⟩
          have n1 : ¬ p = q := by omega
          have n2 : ¬ q = p := by omega
          have n3 : ¬ p + 1 = q := by omega
          have n4 : ¬ q = p + 1 := by omega
          have n5 : ¬ p = q + 1 := by omega
          have n6 : ¬ q + 1 = p := by omega
          rw [hp] at a0 a1 a2 a3 S2
          rw [hq] at b0 b1 b2 b3 S2
          clear S1
          go_wp2_with fail
          go_big_region_o
          clear a0 a1 a2 a3 b0 b1 b2 b3
          go_wp2_with fail
          go_roundg (i - 1 - (k + 1))
          case measure => omega
          case rel => exact ⟨k + 1, swp dk k (k + 1), by go_num, by omega, by omega, by omega, by rw [size_swp]; exact hds, HT.out.shift_up hak (by omega), S2⟩
        · have hltz2 : ¬ (k : Int) < ((i - 1 : Nat) : Int) := by omega
          go_wp2_with fail
          (try simp only [Exit.inBlock, Exit.then]); refine bodyPost_ret (results_none rfl _ _ _) rfl ?_
          have hk : k + 1 = i := by omega
          have ht := HT.out
          rw [hk] at ht
          have hlo := HLO.out
          have hhi := HHI.out
          have hr := HR.out
          rw [HM.out] at hlo hr
          exact ⟨rfl, dk, S1.out, Mrg.one_left swoF ltF_ne ht (by omega) hjb hb hr hlo hhi⟩

set_option maxHeartbeats 4000000 in
set_option maxRecDepth 1000000 in
theorem sym_right (blk off cap a m b : Nat) (d0 d : Array Fx) (w0 w : World) (R : RowK encX 2 w0 blk off d0) (hs : d0.size = d.size) (S : SWK encX 2 w0 blk off d w) (hm : a + 1 < m) (hmb : b = m + 1) (hb : b ≤ d.size) (hsz : d.size < 2305843009213693952) (hL : SortedIn (ltOf cmpF) a m d) :
    Calls Tryz.prog 117 #[.slice (some ⟨blk, off, none⟩) d.size cap, .int .i64 a, .int .i64 m, .int .i64 b, .func (.func 64) #[] #[]] w fun e w' =>
      e = .returned (.tuple #[]) ∧ ∃ dk, SWK encX 2 w0 blk off dk w' ∧ Mrg (ltOf cmpF) Fx.name a b d dk := by
  have mixed := Tryz.mixed
  have eg := enters_byName
  have S0 : Aside (SWK encX 2 w0 blk off d w) := S
  have RR : Aside (RowK encX 2 w0 blk off d0) := R
  have HR := hid hL
  have HM := hid hmb
  have e0 : IntKind.i64.wrap ((m : Int) - (a : Int)) = ((m - a : Nat) : Int) := by rw [IntKind.wrap_i64]; omega
  have e1 : (((m - a : Nat) : Int) == 1) = false := beq_eq_false_iff_ne.2 (by omega)
  have e2 : IntKind.i64.wrap ((b : Int) - (m : Int)) = 1 := by rw [IntKind.wrap_i64]; omega
  have hms : m < d.size := by omega
  clear S R hL hmb
  go_enter Tryz.func117, Tryz.ntmps117
  go_wp2_with fail
  go_loopg [14, 15] (m - a) (fun kx vi vj wr => ∃ (i j : Nat), vi = .int .i64 i ∧ vj = .int .i64 j ∧ a ≤ i ∧ i ≤ j ∧ j ≤ m ∧ j - i ≤ kx ∧ Hid (a < i → ltOf cmpF d[m]! d[i - 1]! = false) ∧ Hid (j < m → ltOf cmpF d[m]! d[j]! = true) ∧ Aside (SWK encX 2 w0 blk off d wr))
  case atStart => exact ⟨a, m, rfl, rfl, by omega, by omega, by omega, by omega, fun h => absurd h (Nat.lt_irrefl _), fun h => absurd h (Nat.lt_irrefl _), S0⟩
  case round =>
    clear S0
    obtain ⟨i, j, rfl, rfl, hmi, hij, hjb, hkx, HLO, HHI, S1⟩ := hrel
    by_cases hlt : i < j
    · have hltz : (i : Int) < (j : Int) := by omega
      obtain ⟨h, hh⟩ : ∃ h, (i + j) / 2 = h := ⟨_, rfl⟩
      have hz : ((i : Int) + (j : Int)) / 2 = (h : Int) := by omega
      have h1 : i ≤ h := by omega
      have h2 : h < j := by omega
      clear hh
      go_wp2_with fail
      cases hL : ltOf cmpF d[m]! d[h]! with
      | false =>
        have ea : ((m : Int)).toNat = m := by omega
        have pa : (0 : Int) ≤ (m : Int) := by omega
        have ba : (m : Int) < (d.size : Int) := by omega
        have ec : ((h : Int)).toNat = h := by omega
        have pc : (0 : Int) ≤ (h : Int) := by omega
        have bc : (h : Int) < (d.size : Int) := by omega
        have la := swk_in S1.out RR.out (by omega) (m) (by omega)
        have lb := swk_in S1.out RR.out (by omega) (h) (by omega)
        have hv := ltF_false hL
        have HL := hid hL
        clear hL
        generalize d[m]! = x at la hv
        generalize d[h]! = y at lb hv
        have la0 := fun n os => (la n os).1
        have la1 := fun n os => (la n os).2
        have lb0 := fun n os => (lb n os).1
        have lb1 := fun n os => (lb n os).2
        clear la lb
        have hd : decide (cmpF x y < 0) = false := decide_eq_false hv
        have hc := cmp_in x y wr
        go_wp2_with fail
        go_quiet_grown (first | (go_at_fn 64; refine Calls.grown_of (hc _ _)))
        have S2 : Aside (SWK encX 2 w0 blk off d (grow (wr.drewN nq) osq)) := S1.out.grown nq osq
        clear la0 la1 lb0 lb1 hc S1
        generalize grow (wr.drewN nq) osq = w2 at S2 ⊢
        clear nq osq
        go_wp2_with fail
        go_roundg (j - (h + 1))
        case measure => omega
        case rel => exact ⟨h + 1, j, by go_num, rfl, by omega, by omega, hjb, by omega, fun _ => HL.out, HHI, S2⟩
      | true =>
        have ea : ((m : Int)).toNat = m := by omega
        have pa : (0 : Int) ≤ (m : Int) := by omega
        have ba : (m : Int) < (d.size : Int) := by omega
        have ec : ((h : Int)).toNat = h := by omega
        have pc : (0 : Int) ≤ (h : Int) := by omega
        have bc : (h : Int) < (d.size : Int) := by omega
        have la := swk_in S1.out RR.out (by omega) (m) (by omega)
        have lb := swk_in S1.out RR.out (by omega) (h) (by omega)
        have hv := ltF_true hL
        have HL := hid hL
        clear hL
        generalize d[m]! = x at la hv
        generalize d[h]! = y at lb hv
        have la0 := fun n os => (la n os).1
        have la1 := fun n os => (la n os).2
        have lb0 := fun n os => (lb n os).1
        have lb1 := fun n os => (lb n os).2
        clear la lb
        have hd : decide (cmpF x y < 0) = true := decide_eq_true hv
        have hc := cmp_in x y wr
        go_wp2_with fail
        go_quiet_grown (first | (go_at_fn 64; refine Calls.grown_of (hc _ _)))
        have S2 : Aside (SWK encX 2 w0 blk off d (grow (wr.drewN nq) osq)) := S1.out.grown nq osq
        clear la0 la1 lb0 lb1 hc S1
        generalize grow (wr.drewN nq) osq = w2 at S2 ⊢
        clear nq osq
        go_wp2_with fail
        go_roundg (h - i)
        case measure => omega
        case rel => exact ⟨i, h, rfl, rfl, hmi, h1, by omega, by omega, HLO, fun _ => HL.out, S2⟩
    · have hltz : ¬ (i : Int) < (j : Int) := by omega
      obtain rfl : i = j := by omega
      clear hij hkx hlt
      have SA := S1
      go_wp2_with fail
      go_loopg [17] (m - a) (fun kx vk wr => ∃ (k : Nat) (dk : Array Fx), vk = .int .i64 k ∧ i ≤ k ∧ k ≤ m ∧ k - i ≤ kx ∧ dk.size = d.size ∧ Aside (Rot k m (m + 1) d dk) ∧ Aside (SWK encX 2 w0 blk off dk wr))
      case atStart => exact ⟨m, d, rfl, by omega, by omega, by omega, rfl, rot_none' _ _ _, SA⟩
      case round =>
        clear SA S1
        obtain ⟨k, dk, rfl, hak, hki, hkx, hds, HT, S1⟩ := hrel
        by_cases hlt : i < k
        · obtain ⟨kp, rfl⟩ : ∃ kp, k = kp + 1 := ⟨k - 1, by omega⟩
          have hltz2 : (i : Int) < (kp : Int) + 1 := by omega
          go_wp2_with fail
          have ea : ((kp : Int) + 1).toNat = kp + 1 := by omega
          have pa : (0 : Int) ≤ (kp : Int) + 1 := by omega
          have ba : (kp : Int) + 1 < (d.size : Int) := by omega
          have ra : IntKind.i64.wrap ((kp : Int) + 1) = (kp : Int) + 1 := by rw [IntKind.wrap_i64]; omega
          have ec : ((kp : Int)).toNat = kp := by omega
          have pc : (0 : Int) ≤ (kp : Int) := by omega
          have bc : (kp : Int) < (d.size : Int) := by omega
          have rc : IntKind.i64.wrap ((kp : Int)) = (kp : Int) := by rw [IntKind.wrap_i64]; omega
          obtain ⟨a0, a1, a2, a3⟩ := swk_cells S1.out RR.out (by omega) (kp + 1) (by omega)
          obtain ⟨b0, b1, b2, b3⟩ := swk_cells S1.out RR.out (by omega) (kp) (by omega)
          have S2 : Aside _ := swk_swapped S1.out RR.out (kp + 1) (kp) (by omega) (by omega)
          generalize dk[kp + 1]! = x at a0 a2 S2
          generalize dk[kp]! = y at b0 b2 S2
          unfold Fx.sl at a2 b2 S2
          obtain ⟨p, hp⟩ : ∃ p, off + (kp + 1) * 2 = p := ⟨_, rfl⟩
          obtain ⟨q, hq⟩ : ∃ q, off + (kp) * 2 = q := ⟨_, rfl⟩
          have n1 : ¬ p = q := by omega
          have n2 : ¬ q = p := by omega
          have n3 : ¬ p + 1 = q := by omega
          have n4 : ¬ q = p + 1 := by omega
          have n5 : ¬ p = q + 1 := by omega
          have n6 : ¬ q + 1 = p := by omega
          rw [hp] at a0 a1 a2 a3 S2
          rw [hq] at b0 b1 b2 b3 S2
          clear S1
          go_wp2_with fail
          go_big_region_o
          clear a0 a1 a2 a3 b0 b1 b2 b3
          go_wp2_with fail
          go_roundg (kp - i)
          case measure => omega
          case rel => exact ⟨kp, swp dk (kp + 1) kp, by first | rfl | go_num, by omega, by omega, by omega, by rw [size_swp]; exact hds, HT.out.shift_down (by omega) (by omega), S2⟩
        · have hltz2 : ¬ (i : Int) < (k : Int) := by omega
          go_wp2_with fail
          (try simp only [Exit.inBlock, Exit.then]); refine bodyPost_ret (results_none rfl _ _ _) rfl ?_
          obtain rfl : k = i := by omega
          have hlo := HLO.out
          have hhi := HHI.out
          rw [HM.out]
          exact ⟨rfl, dk, S1.out, Mrg.one_right swoF ltF_ne HT.out (by omega) (by omega) (by omega) HR.out hlo hhi⟩

end Go.Proofs.YtelcongbnmfegabGreatDoor

/-
  The contract of symMergeCmpFunc of slices, over fields: the general case, and the whole.
-/
namespace Go.Proofs.YtelcongbnmfegabGreatDoor
open Go.RowKit Go.Sort Go.Lib Go.Shelf

/-- What a merge from a to b is asked. -/
def SymIs (blk off cap : Nat) (d0 : Array Fx) (w0 : World) (a m b : Nat) : Prop :=
  ∀ (d : Array Fx) (w : World), d0.size = d.size → b ≤ d.size → SWK encX 2 w0 blk off d w → SortedIn (ltOf cmpF) a m d → SortedIn (ltOf cmpF) m b d →
    Calls Tryz.prog 117 #[.slice (some ⟨blk, off, none⟩) d.size cap, .int .i64 a, .int .i64 m, .int .i64 b, .func (.func 64) #[] #[]] w fun e w' =>
      e = .returned (.tuple #[]) ∧ ∃ dk, SWK encX 2 w0 blk off dk w' ∧ Mrg (ltOf cmpF) Fx.name a b d dk

set_option maxHeartbeats 8000000 in
set_option maxRecDepth 1000000 in
theorem sym_general (blk off cap a m b : Nat) (d0 : Array Fx) (w0 : World) (R : RowK encX 2 w0 blk off d0) (hm : a + 1 < m) (hmb : m + 1 < b) (hsz : d0.size < 2305843009213693952)
    (IH : ∀ a' m' b', a' < m' → m' < b' → b' - a' < b - a → SymIs blk off cap d0 w0 a' m' b') : SymIs blk off cap d0 w0 a m b := by
  intro d w hs hb S hL hR
  have mixed := Tryz.mixed
  have eg := enters_byName
  have S0 : Aside (SWK encX 2 w0 blk off d w) := S
  have RR : Aside (RowK encX 2 w0 blk off d0) := R
  have HIH := hid IH
  have HSL := hid hL
  have HSR := hid hR
  have e0 : IntKind.i64.wrap ((m : Int) - (a : Int)) = ((m - a : Nat) : Int) := by rw [IntKind.wrap_i64]; omega
  have e1 : (((m - a : Nat) : Int) == 1) = false := beq_eq_false_iff_ne.2 (by omega)
  have e2 : IntKind.i64.wrap ((b : Int) - (m : Int)) = ((b - m : Nat) : Int) := by rw [IntKind.wrap_i64]; omega
  have e3 : (((b - m : Nat) : Int) == 1) = false := beq_eq_false_iff_ne.2 (by omega)
  obtain ⟨mid, hmid⟩ : ∃ mid, (a + b) / 2 = mid := ⟨_, rfl⟩
  have hmz : ((a : Int) + (b : Int)) / 2 = (mid : Int) := by omega
  have hm1 : 2 * mid ≤ a + b := by omega
  have hm2 : a + b ≤ 2 * mid + 1 := by omega
  obtain ⟨nn, hnn⟩ : ∃ nn, mid + m = nn := ⟨_, rfl⟩
  have hnz : (mid : Int) + (m : Int) = (nn : Int) := by omega
  have e5 : IntKind.i64.wrap ((nn : Int) - 1) = ((nn - 1 : Nat) : Int) := by rw [IntKind.wrap_i64]; omega
  have HNN := hid hnn
  clear S R hL hR IH hmid hnn
  go_enter Tryz.func117, Tryz.ntmps117
  go_upto_if 140 with fail
  go_cut [20, 21] from 138 to 146 (fun vs vr wx => w = wx ∧ ∃ s0 r0 : Nat, vs = .int .i64 s0 ∧ vr = .int .i64 r0 ∧ s0 ≤ r0 ∧ ((mid < m ∧ s0 + b = nn ∧ r0 = mid) ∨ (m ≤ mid ∧ s0 = a ∧ r0 = m)))
  case first =>
    by_cases hc : mid < m
    · have hcz : (mid : Int) < (m : Int) := by omega
      have e4 : IntKind.i64.wrap ((nn : Int) - (b : Int)) = ((nn - b : Nat) : Int) := by rw [IntKind.wrap_i64]; omega
      go_wp2_with fail
      go_meet
      case rel => exact ⟨rfl, nn - b, mid, rfl, rfl, by have := HNN.out; omega, Or.inl ⟨hc, by have := HNN.out; omega, rfl⟩⟩
    · have hcz : ¬ (mid : Int) < (m : Int) := by omega
      go_wp2_with fail
      go_meet
      case rel => exact ⟨rfl, a, m, rfl, rfl, by omega, Or.inr ⟨by omega, rfl, rfl⟩⟩
  case rest =>
  obtain ⟨rfl, s0, r0, rfl, rfl, hsr, hcase⟩ := hcut
  have hlo : a ≤ s0 ∧ r0 ≤ m ∧ r0 ≤ mid ∧ nn - s0 ≤ b ∧ nn - r0 ≥ m ∧ r0 < nn := by have := HNN.out; omega
  have HCASE := hid hcase
  obtain ⟨k1, k2, k3, k4, k5, k6⟩ := hlo
  clear hcase
  go_wp2_with fail
  go_loopg [20, 21] (r0 - s0) (fun kx vs vr wr => ∃ (s r : Nat), vs = .int .i64 s ∧ vr = .int .i64 r ∧ s0 ≤ s ∧ s ≤ r ∧ r ≤ r0 ∧ r - s ≤ kx ∧ Hid (s0 < s → ltOf cmpF d[nn - s]! d[s - 1]! = false) ∧ Hid (r < r0 → ltOf cmpF d[nn - 1 - r]! d[r]! = true) ∧ Aside (SWK encX 2 w0 blk off d wr))
  case atStart => exact ⟨s0, r0, rfl, rfl, by omega, by omega, by omega, by omega, fun h => absurd h (Nat.lt_irrefl _), fun h => absurd h (Nat.lt_irrefl _), S0⟩
  case round =>
  clear S0
  obtain ⟨s, r, rfl, rfl, hs0, hsr2, hr0, hkx, HLO, HHI, S1⟩ := hrel
  by_cases hlt : s < r
  · have hltz : (s : Int) < (r : Int) := by omega
    obtain ⟨c, hh⟩ : ∃ c, (s + r) / 2 = c := ⟨_, rfl⟩
    have hz : ((s : Int) + (r : Int)) / 2 = (c : Int) := by omega
    have h1 : s ≤ c := by omega
    have h2 : c < r := by omega
    have e6 : IntKind.i64.wrap (((nn - 1 : Nat) : Int) - (c : Int)) = ((nn - 1 - c : Nat) : Int) := by rw [IntKind.wrap_i64]; omega
    clear hh
    go_wp2_with fail
    cases hL : ltOf cmpF d[nn - 1 - c]! d[c]! with
    | false =>
      have ea : (((nn - 1 - c : Nat) : Int)).toNat = nn - 1 - c := by omega
      have pa : (0 : Int) ≤ ((nn - 1 - c : Nat) : Int) := by omega
      have ba : ((nn - 1 - c : Nat) : Int) < (d.size : Int) := by omega
      have ec : ((c : Int)).toNat = c := by omega
      have pc : (0 : Int) ≤ (c : Int) := by omega
      have bc : (c : Int) < (d.size : Int) := by omega
      have la := swk_in S1.out RR.out (by omega) (nn - 1 - c) (by omega)
      have lb := swk_in S1.out RR.out (by omega) (c) (by omega)
      have hv := ltF_false hL
      have HL := hid hL
      clear hL
      generalize d[nn - 1 - c]! = x at la hv
      generalize d[c]! = y at lb hv
      have la0 := fun n os => (la n os).1
      have la1 := fun n os => (la n os).2
      have lb0 := fun n os => (lb n os).1
      have lb1 := fun n os => (lb n os).2
      clear la lb
      have hd : decide (cmpF x y < 0) = false := decide_eq_false hv
      have hc := cmp_in x y wr
      go_wp2_with fail
      go_quiet_grown (first | (go_at_fn 64; refine Calls.grown_of (hc _ _)))
      have S2 : Aside (SWK encX 2 w0 blk off d (grow (wr.drewN nq) osq)) := S1.out.grown nq osq
      clear la0 la1 lb0 lb1 hc S1
      generalize grow (wr.drewN nq) osq = w2 at S2 ⊢
      clear nq osq
      go_wp2_with fail
      go_roundg (r - (c + 1))
      case measure => omega
      case rel => exact ⟨c + 1, r, by go_num, rfl, by omega, by omega, hr0, by omega, fun _ => by rw [show nn - (c + 1) = nn - 1 - c by omega]; exact HL.out, HHI, S2⟩
    | true =>
      have ea : (((nn - 1 - c : Nat) : Int)).toNat = nn - 1 - c := by omega
      have pa : (0 : Int) ≤ ((nn - 1 - c : Nat) : Int) := by omega
      have ba : ((nn - 1 - c : Nat) : Int) < (d.size : Int) := by omega
      have ec : ((c : Int)).toNat = c := by omega
      have pc : (0 : Int) ≤ (c : Int) := by omega
      have bc : (c : Int) < (d.size : Int) := by omega
      have la := swk_in S1.out RR.out (by omega) (nn - 1 - c) (by omega)
      have lb := swk_in S1.out RR.out (by omega) (c) (by omega)
      have hv := ltF_true hL
      have HL := hid hL
      clear hL
      generalize d[nn - 1 - c]! = x at la hv
      generalize d[c]! = y at lb hv
      have la0 := fun n os => (la n os).1
      have la1 := fun n os => (la n os).2
      have lb0 := fun n os => (lb n os).1
      have lb1 := fun n os => (lb n os).2
      clear la lb
      have hd : decide (cmpF x y < 0) = true := decide_eq_true hv
      have hc := cmp_in x y wr
      go_wp2_with fail
      go_quiet_grown (first | (go_at_fn 64; refine Calls.grown_of (hc _ _)))
      have S2 : Aside (SWK encX 2 w0 blk off d (grow (wr.drewN nq) osq)) := S1.out.grown nq osq
      clear la0 la1 lb0 lb1 hc S1
      generalize grow (wr.drewN nq) osq = w2 at S2 ⊢
      clear nq osq
      go_wp2_with fail
      go_roundg (c - s)
      case measure => omega
      case rel => exact ⟨s, c, rfl, rfl, hs0, h1, by omega, by omega, HLO, fun _ => HL.out, S2⟩
  have hltz : ¬ (s : Int) < (r : Int) := by omega
  obtain rfl : s = r := by omega
  obtain ⟨e, he⟩ : ∃ e, nn - s = e := ⟨_, rfl⟩
  have e7 : IntKind.i64.wrap ((nn : Int) - (s : Int)) = (e : Int) := by rw [IntKind.wrap_i64]; omega
  have hge : m ≤ e := by omega
  have heb : e ≤ b := by omega
  have hsm : s ≤ m := by omega
  have has : a ≤ s := by omega
  have hds : s + (e - m) = mid := by have := HNN.out; omega
  have hlow : a < s → e < b → ltOf cmpF d[e]! d[s - 1]! = false := fun h1 h2 => by
    have := HLO.out (by have := HCASE.out; have := HNN.out; omega)
    rw [he] at this; exact this
  have hhigh : s < m → m < e → ltOf cmpF d[e - 1]! d[s]! = true := fun h1 h2 => by
    have := HHI.out (by have := HCASE.out; have := HNN.out; omega)
    rw [show nn - 1 - s = e - 1 by omega] at this; exact this
  have HLOW := hid hlow
  have HHIGH := hid hhigh
  have ham : a < mid := by omega
  have hmb2 : mid < b := by omega
  clear hlow hhigh HLO HHI hsr2 hkx hlt he k4 k5
  go_upto_region 39 with fail
  go_cut [185] from 178 to 185 (fun v wx => wr = wx ∧ ∃ B : Bool, v = .bool B ∧ Hid (B = true ↔ (s < m ∧ m < e)))
  case first =>
    by_cases g1 : s < m
    · have g1z : (s : Int) < (m : Int) := by omega
      have g1d : decide ((s : Int) < (m : Int)) = true := decide_eq_true g1z
      by_cases g2 : m < e
      · have g2z : (m : Int) < (e : Int) := by omega
        have g2d : decide ((m : Int) < (e : Int)) = true := decide_eq_true g2z
        go_wp2_with fail
        go_meet
        case rel => exact ⟨rfl, true, rfl, ⟨fun _ => ⟨g1, g2⟩, fun _ => rfl⟩⟩
      · have g2z : ¬ (m : Int) < (e : Int) := by omega
        have g2d : decide ((m : Int) < (e : Int)) = false := decide_eq_false g2z
        go_wp2_with fail
        go_meet
        case rel => exact ⟨rfl, false, rfl, ⟨fun h => Bool.noConfusion h, fun h => absurd h.2 g2⟩⟩
    · have g1z : ¬ (s : Int) < (m : Int) := by omega
      have g1d : decide ((s : Int) < (m : Int)) = false := decide_eq_false g1z
      go_wp2_with fail
      go_meet
      case rel => exact ⟨rfl, false, rfl, ⟨fun h => Bool.noConfusion h, fun h => absurd h.1 g1⟩⟩
  case rest =>
  obtain ⟨rfl, B, rfl, HB⟩ := hcut
  go_upto_if 185 with fail
  go_cut [] from 185 to 191 (fun wx => ∃ d1, Aside (SWK encX 2 w0 blk off d1 wx) ∧ d1.size = d.size ∧ Hid (Rot s m e d d1))
  case first =>
    cases B with
    | true =>
      have hc := HB.out.1 rfl
      have hr := rotate_any blk off cap s m e (.func (.func 64) #[] #[]) d0 d w0 wr RR.out hs S1.out hc.1 hc.2 (by omega) (by omega)
      have HRO := hid hr
      clear hr S1 hc
      go_wp2_with (first | (go_at_call 128; refine HRO.out.mono ?_; rintro _ w1 ⟨rfl, d1, hs1, hr1⟩; have HS1 : Aside _ := hs1; have HR1 := hid hr1; clear hs1 hr1))
      go_meet
      case rel => exact ⟨d1, HS1, HR1.out.1, HR1⟩
    | false =>
      have hc : ¬ (s < m ∧ m < e) := fun h => Bool.noConfusion (HB.out.2 h)
      have hrot : Rot s m e d d := by
        by_cases e1 : s < m
        · rw [show e = m by omega]; exact rot_none _ _ _
        · rw [show s = m by omega]; exact rot_none' _ _ _
      have HRT := hid hrot
      clear hrot hc
      go_wp2_with fail
      go_meet
      case rel => exact ⟨d, S1, rfl, HRT⟩
  case rest =>
  clear S1
  obtain ⟨d1, S1, hz1, HRT⟩ := hcut
  have hcut2 := merge_cut (K := Fx.name) swoF ltF_ne HRT.out has hsm hge heb hb hds HSL.out HSR.out HLOW.out HHIGH.out
  obtain ⟨t1, t2, t3, t4⟩ := hcut2
  have HT1 := hid t1
  have HT2 := hid t2
  have HT3 := hid t3
  have HT4 := hid t4
  clear t1 t2 t3 t4 HLOW HHIGH HRT
  go_upto_region 41 with fail
  go_cut [199] from 192 to 199 (fun v wx => wc = wx ∧ ∃ B : Bool, v = .bool B ∧ Hid (B = true ↔ (a < s ∧ s < mid)))
  case first =>
    by_cases g1 : a < s
    · have g1z : (a : Int) < (s : Int) := by omega
      have g1d : decide ((a : Int) < (s : Int)) = true := decide_eq_true g1z
      by_cases g2 : s < mid
      · have g2z : (s : Int) < (mid : Int) := by omega
        have g2d : decide ((s : Int) < (mid : Int)) = true := decide_eq_true g2z
        go_wp2_with fail
        go_meet
        case rel => exact ⟨rfl, true, rfl, ⟨fun _ => ⟨g1, g2⟩, fun _ => rfl⟩⟩
      · have g2z : ¬ (s : Int) < (mid : Int) := by omega
        have g2d : decide ((s : Int) < (mid : Int)) = false := decide_eq_false g2z
        go_wp2_with fail
        go_meet
        case rel => exact ⟨rfl, false, rfl, ⟨fun h => Bool.noConfusion h, fun h => absurd h.2 g2⟩⟩
    · have g1z : ¬ (a : Int) < (s : Int) := by omega
      have g1d : decide ((a : Int) < (s : Int)) = false := decide_eq_false g1z
      go_wp2_with fail
      go_meet
      case rel => exact ⟨rfl, false, rfl, ⟨fun h => Bool.noConfusion h, fun h => absurd h.1 g1⟩⟩
  case rest =>
  obtain ⟨rfl, B, rfl, HB⟩ := hcut
  go_upto_if 199 with fail
  go_cut [] from 199 to 205 (fun wx => ∃ d2, Aside (SWK encX 2 w0 blk off d2 wx) ∧ Hid (Mrg (ltOf cmpF) Fx.name a mid d1 d2))
  case first =>
    cases B with
    | true =>
      have hc := HB.out.1 rfl
      have hr := HIH.out a s mid hc.1 hc.2 (by omega) d1 wc (by omega) (by omega) S1.out HT1.out HT2.out
      rw [hz1] at hr
      have HRO := hid hr
      clear hr S1 hc
      go_wp2_with (first | (go_at_call 117; refine HRO.out.mono ?_; rintro _ w1 ⟨rfl, d2, hs1, hr1⟩; have HS1 : Aside _ := hs1; have HR1 := hid hr1; clear hs1 hr1))
      go_meet
      case rel => exact ⟨d2, HS1, HR1⟩
    | false =>
      have hc : ¬ (a < s ∧ s < mid) := fun h => Bool.noConfusion (HB.out.2 h)
      have HRT := hid (HT3.out hc)
      clear hc
      go_wp2_with fail
      go_meet
      case rel => exact ⟨d1, S1, HRT⟩
  case rest =>
  clear S1
  obtain ⟨d2, S1, HM2⟩ := hcut
  obtain ⟨t1, t2, t3, t4⟩ := HT4.out d2 HM2.out
  have hz2 : d2.size = d1.size := HM2.out.1.1
  have HU1 := hid t1
  have HU2 := hid t2
  have HU3 := hid t3
  have HU4 := hid t4
  clear t1 t2 t3 t4 HT1 HT2 HT3 HT4 HM2
  go_upto_region 43 with fail
  go_cut [213] from 206 to 213 (fun v wx => wc = wx ∧ ∃ B : Bool, v = .bool B ∧ Hid (B = true ↔ (mid < e ∧ e < b)))
  case first =>
    by_cases g1 : mid < e
    · have g1z : (mid : Int) < (e : Int) := by omega
      have g1d : decide ((mid : Int) < (e : Int)) = true := decide_eq_true g1z
      by_cases g2 : e < b
      · have g2z : (e : Int) < (b : Int) := by omega
        have g2d : decide ((e : Int) < (b : Int)) = true := decide_eq_true g2z
        go_wp2_with fail
        go_meet
        case rel => exact ⟨rfl, true, rfl, ⟨fun _ => ⟨g1, g2⟩, fun _ => rfl⟩⟩
      · have g2z : ¬ (e : Int) < (b : Int) := by omega
        have g2d : decide ((e : Int) < (b : Int)) = false := decide_eq_false g2z
        go_wp2_with fail
        go_meet
        case rel => exact ⟨rfl, false, rfl, ⟨fun h => Bool.noConfusion h, fun h => absurd h.2 g2⟩⟩
    · have g1z : ¬ (mid : Int) < (e : Int) := by omega
      have g1d : decide ((mid : Int) < (e : Int)) = false := decide_eq_false g1z
      go_wp2_with fail
      go_meet
      case rel => exact ⟨rfl, false, rfl, ⟨fun h => Bool.noConfusion h, fun h => absurd h.1 g1⟩⟩
  case rest =>
  obtain ⟨rfl, B, rfl, HB⟩ := hcut
  cases B with
  | true =>
    have hc := HB.out.1 rfl
    have hr := HIH.out mid e b hc.1 hc.2 (by omega) d2 wc (by omega) (by omega) S1.out HU1.out HU2.out
    rw [hz2, hz1] at hr
    have HRO := hid hr
    clear hr S1 hc
    go_wp2_with (first | (go_at_call 117; refine HRO.out.mono ?_; rintro _ w1 ⟨rfl, d3, hs1, hr1⟩; have HS1 : Aside _ := hs1; have HR1 := hid hr1; clear hs1 hr1))
    go_end0
    exact ⟨rfl, d3, HS1.out, HU4.out d3 HR1.out⟩
  | false =>
    have hc : ¬ (mid < e ∧ e < b) := fun h => Bool.noConfusion (HB.out.2 h)
    have HRT := hid (HU4.out d2 (HU3.out hc))
    clear hc
    go_wp2_with fail
    go_end0
    exact ⟨rfl, d2, S1.out, HRT.out⟩

theorem sym_any (blk off cap : Nat) (d0 : Array Fx) (w0 : World) (R : RowK encX 2 w0 blk off d0) (hsz : d0.size < 2305843009213693952) : ∀ (n a m b : Nat), b - a ≤ n → a < m → m < b → SymIs blk off cap d0 w0 a m b
  | 0, a, m, b, hn, h1, h2 => by omega
  | n + 1, a, m, b, hn, h1, h2 => by
    by_cases c1 : m = a + 1
    · intro d w hs hb S hL hR
      exact sym_left blk off cap a m b d0 d w0 w R hs S c1 h2 hb (by omega) hR
    · by_cases c2 : b = m + 1
      · intro d w hs hb S hL hR
        exact sym_right blk off cap a m b d0 d w0 w R hs S (by omega) c2 hb (by omega) hL
      · exact sym_general blk off cap a m b d0 w0 R (by omega) (by omega) hsz (fun a' m' b' k1 k2 k3 => sym_any blk off cap d0 w0 R hsz n a' m' b' (by omega) k1 k2)

end Go.Proofs.YtelcongbnmfegabGreatDoor

/-
  The contracts of stableCmpFunc and SortStableFunc of slices, over fields.
-/
namespace Go.Proofs.YtelcongbnmfegabGreatDoor
open Go.RowKit Go.Sort Go.Lib Go.Shelf

theorem ins_swk (blk off cap a b : Nat) (d0 dk : Array Fx) (w0 W : World) (R : RowK encX 2 w0 blk off d0) (hs : d0.size = dk.size) (S : SWK encX 2 w0 blk off dk W) (hab : a ≤ b) (hb : b ≤ dk.size) (hsz : dk.size < 1152921504606846976) :
    Calls Tryz.prog 116 #[.slice (some ⟨blk, off, none⟩) dk.size cap, .int .i64 a, .int .i64 b, .func (.func 64) #[] #[]] W fun e w' =>
      e = .returned (.tuple #[]) ∧ ∃ dl, SWK encX 2 w0 blk off dl w' ∧ PermIn a b dk dl ∧ SortedIn (ltOf cmpF) a b dl ∧ Stab Fx.name dk dl := by
  refine (ins_any blk off cap a b dk W (S.holds R.hblk R.hH hs.symm) (S.lt R.hblk) hab hb (by omega)).mono ?_
  rintro e w' ⟨rfl, n, os, rfl⟩
  obtain ⟨h1, h2⟩ := insertionSort_holds swoF dk a b hab hb
  exact ⟨rfl, _, S.on R.hblk n _ os h1.1, h1, h2, insertionSort_stab (K := Fx.name) ltF_ne dk a b hb⟩

set_option maxHeartbeats 4000000 in
set_option maxRecDepth 1000000 in
theorem stable_any (blk off cap : Nat) (d : Array Fx) (w : World) (hH : HoldsK encX 2 w blk off d) (hblk : blk < w.heap.size) (hsz : d.size < 1152921504606846976) :
    Calls Tryz.prog 91 #[.slice (some ⟨blk, off, none⟩) d.size cap, .int .i64 d.size, .func (.func 64) #[] #[]] w fun e w' => e = .returned (.tuple #[]) ∧ Sorts w blk off d w' := by
  have RR : Aside (RowK encX 2 w blk off d) := ⟨fun _ => rfl, encX_one, hH, hblk⟩
  have S0 : Aside (SWK encX 2 w blk off d w) := SWK.start hH
  clear hH hblk
  go_enter Tryz.func91, Tryz.ntmps91
  go_wp2_with fail
  go_loopg [7, 8] d.size (fun kx va vb wr => ∃ (A B q : Nat) (dk : Array Fx), va = .int .i64 A ∧ vb = .int .i64 B ∧ B = A + 20 ∧ Hid (A = q * 20) ∧ A ≤ d.size ∧ d.size - A ≤ kx ∧ Aside (Way Fx.name d dk) ∧ Aside (SegTo (ltOf cmpF) 20 q dk) ∧ Aside (SWK encX 2 w blk off dk wr))
  case atStart => exact ⟨0, 20, 0, d, rfl, rfl, rfl, (show Hid _ from by simp [Hid]), by omega, by omega, Way.refl _ _, segTo_zero _ _ _, S0⟩
  case round =>
  clear S0
  obtain ⟨A, B, q, dk, rfl, rfl, hB, HA, hAn, hkx, HW, HG, S1⟩ := hrel
  have hdk : dk.size = d.size := HW.out.size
  by_cases hlt : B ≤ d.size
  · have hltz : (B : Int) ≤ (d.size : Int) := by omega
    have hc := ins_swk blk off cap A B d dk w wr RR.out hdk.symm S1.out (by omega) (by omega) (by omega)
    rw [hdk] at hc
    have HC := hid hc
    have HB := hid hB
    have hAB : A < B := by omega
    clear hc S1 hB
    go_wp2_with (first | (go_at_call 116; refine HC.out.mono ?_; rintro e w1 ⟨rfl, dl, hs1, hp1, ho1, ht1⟩; have HS1 : Aside _ := hs1; have HP1 := hid hp1; have HO1 := hid ho1; have HT1 := hid ht1; clear hs1 hp1 ho1 ht1))
    go_roundg (d.size - B)
    case measure => omega
    case rel =>
      have hb := HB.out
      have ha := HA.out
      have hp := HP1.out
      have ho := HO1.out
      rw [hb, ha] at hp ho
      exact ⟨B, B + 20, q + 1, dl, by first | rfl | go_num, by first | rfl | go_num, rfl, (show Hid _ from by show B = _; omega), hlt, by omega, HW.out.step HP1.out hlt HT1.out, HG.out.step hp ho, HS1⟩
  have hltz : ¬ (B : Int) ≤ (d.size : Int) := by omega
  have hc := ins_swk blk off cap A d.size d dk w wr RR.out hdk.symm S1.out hAn (by omega) (by omega)
  rw [hdk] at hc
  have HC := hid hc
  have hseg : ∀ dl, PermIn A d.size dk dl → SortedIn (ltOf cmpF) A d.size dl → SegFrom (ltOf cmpF) 20 0 d.size dl := fun dl h1 h2 => by
    have ha := HA.out
    refine HG.out.last (by omega) ?_ ?_
    · rw [← ha]; exact h1
    · rw [← ha]; exact h2
  have HSEG := hid hseg
  clear hc S1 hseg hB hkx
  go_wp2_with (first | (go_at_call 116; refine HC.out.mono ?_; rintro e w1 ⟨rfl, dl, hs1, hp1, ho1, ht1⟩; have HS1 : Aside _ := hs1; have HW1 : Aside (Way Fx.name d dl) := HW.out.step hp1 (Nat.le_refl _) ht1; have HF1 : Aside _ := HSEG.out dl hp1 ho1; clear hs1 hp1 ho1 ht1))
  clear HC HSEG HW HG HA hdk
  go_loopg [6] d.size (fun kx vc wr => ∃ (c : Nat) (dk : Array Fx), vc = .int .i64 c ∧ 0 < c ∧ d.size - c ≤ kx ∧ Aside (Way Fx.name d dk) ∧ Aside (SegFrom (ltOf cmpF) c 0 d.size dk) ∧ Aside (SWK encX 2 w blk off dk wr))
  case atStart => exact ⟨20, dl, rfl, by omega, by omega, HW1, HF1, HS1⟩
  case round =>
  clear HW1 HF1 HS1
  obtain ⟨c, dk, rfl, hc0, hkx, HW, HF, S1⟩ := hrel
  by_cases hlt : c < d.size
  · have hltz2 : (c : Int) < (d.size : Int) := by omega
    go_wp2_with fail
    go_loopg [7, 8] d.size (fun kx va vb wr => ∃ (A B q : Nat) (dk : Array Fx), va = .int .i64 A ∧ vb = .int .i64 B ∧ B = A + 2 * c ∧ Hid (A = q * (2 * c)) ∧ A ≤ d.size ∧ d.size - A ≤ kx ∧ Aside (Way Fx.name d dk) ∧ Aside (SegTo (ltOf cmpF) (2 * c) q dk) ∧ Aside (SegFrom (ltOf cmpF) c A d.size dk) ∧ Aside (SWK encX 2 w blk off dk wr))
    case atStart => exact ⟨0, 2 * c, 0, dk, rfl, by first | rfl | go_num, by omega, (show Hid _ from by simp [Hid]), by omega, by omega, HW, segTo_zero _ _ _, HF, S1⟩
    case round =>
    clear HW HF S1
    obtain ⟨A, B, q, dm, rfl, rfl, hB, HA, hAn, hkx2, HW, HG, HF, S1⟩ := hrel
    have hdm : dm.size = d.size := HW.out.size
    obtain ⟨M, hM⟩ : ∃ M, A + c = M := ⟨_, rfl⟩
    have hMz : (A : Int) + (c : Int) = (M : Int) := by omega
    by_cases hlt3 : B ≤ d.size
    · have hltz3 : (B : Int) ≤ (d.size : Int) := by omega
      have hc := sym_any blk off cap d w RR.out (by omega) (B - A) A M B (Nat.le_refl _) (by omega) (by omega) dm wr hdm.symm (by omega) S1.out (by rw [← hM]; exact HF.out.first (by omega)) (by rw [← hM]; exact HF.out.second (by omega) hlt3)
      rw [hdm] at hc
      have HC := hid hc
      have HB := hid hB
      have hAB : A < B := by omega
      have hBw : IntKind.i64.wrap ((B : Int) + 2 * (c : Int)) = (B : Int) + 2 * (c : Int) := by rw [IntKind.wrap_i64]; omega
      clear hc S1 hB hM
      go_wp2_with (first | (go_at_call 117; refine HC.out.mono ?_; rintro e w1 ⟨rfl, dl, hs1, hm1⟩; have HS1 : Aside _ := hs1; have HM1 := hid hm1; clear hs1 hm1))
      go_roundg (d.size - B)
      case measure => omega
      case rel =>
        obtain ⟨hp1, ho1, ht1⟩ := HM1.out
        have hb := HB.out
        have ha := HA.out
        have hp := hp1
        have ho := ho1
        have hp2 := hp1
        rw [hb] at hp2
        rw [hb, ha] at hp ho
        refine ⟨B, B + 2 * c, q + 1, dl, by first | rfl | go_num, by first | rfl | go_num, rfl, (show Hid _ from ?_), hlt3, by omega, HW.out.step hp1 hlt3 ht1, HG.out.step hp ho, ?_, HS1⟩
        · show B = (q + 1) * (2 * c)
          rw [Nat.add_mul, Nat.one_mul, ← ha]; exact hb
        · rw [hb]; exact HF.out.step hp2
    have hltz3 : ¬ (B : Int) ≤ (d.size : Int) := by omega
    have hcw : IntKind.i64.wrap ((c : Int) * 2) = (c : Int) * 2 := by rw [IntKind.wrap_i64]; omega
    have hseg : ∀ dl, PermIn A d.size dm dl → SortedIn (ltOf cmpF) A d.size dl → SegFrom (ltOf cmpF) (2 * c) 0 d.size dl := fun dl h1 h2 => by
      have ha := HA.out
      refine HG.out.last (by omega) ?_ ?_
      · rw [← ha]; exact h1
      · rw [← ha]; exact h2
    have HSEG := hid hseg
    clear hseg
    by_cases hlt4 : M < d.size
    · have hltz4 : (M : Int) < (d.size : Int) := by omega
      have hc := sym_any blk off cap d w RR.out (by omega) (d.size - A) A M d.size (Nat.le_refl _) (by omega) hlt4 dm wr hdm.symm (by omega) S1.out (by rw [← hM]; exact HF.out.first (by omega)) (by rw [← hM]; exact HF.out.second (by omega) (Nat.le_refl _))
      rw [hdm] at hc
      have HC := hid hc
      clear hc S1 hM hB
      go_wp2_with (first | (go_at_call 117; refine HC.out.mono ?_; rintro e w1 ⟨rfl, dl, hs1, hm1⟩; have HS1 : Aside _ := hs1; have HM1 := hid hm1; clear hs1 hm1))
      go_roundg (d.size - 2 * c)
      case measure => omega
      case rel =>
        obtain ⟨hp1, ho1, ht1⟩ := HM1.out
        exact ⟨2 * c, dl, by first | rfl | go_num, by omega, by omega, HW.out.step hp1 (Nat.le_refl _) ht1, HSEG.out dl hp1 ho1, HS1⟩
    · have hltz4 : ¬ (M : Int) < (d.size : Int) := by omega
      have HSO := hid (HF.out.short (show d.size ≤ A + c by omega))
      clear hM hB
      go_wp2_with fail
      go_roundg (d.size - 2 * c)
      case measure => omega
      case rel => exact ⟨2 * c, dm, by first | rfl | go_num, by omega, by omega, HW, HSEG.out dm (permIn_refl _ _ _) HSO.out, S1⟩
  · have hltz2 : ¬ (c : Int) < (d.size : Int) := by omega
    go_wp2_with fail
    go_end0
    obtain ⟨n, os, hw⟩ := S1.out
    exact ⟨rfl, dk, n, os, HW.out.1, HF.out.short (by omega), HW.out.2, hw⟩

set_option maxHeartbeats 1000000 in
theorem sort_any (blk off cap : Nat) (d : Array Fx) (w : World) (hH : HoldsK encX 2 w blk off d) (hblk : blk < w.heap.size) (hsz : d.size < 1152921504606846976) :
    Calls Tryz.prog 63 #[.slice (some ⟨blk, off, none⟩) d.size cap, .func (.func 64) #[] #[]] w fun e w' => e = .returned (.tuple #[]) ∧ Sorts w blk off d w' := by
  have HI := hid (stable_any blk off cap d w hH hblk hsz)
  clear hH
  go_enter Tryz.func63, Tryz.ntmps63
  go_wp2_with (first | (go_at_call 91; refine HI.out.mono ?_; rintro e w1 ⟨rfl, hs⟩))
  go_end0
  exact ⟨rfl, hs⟩

end Go.Proofs.YtelcongbnmfegabGreatDoor

/-
  The contract of joined.
-/
namespace Go.Proofs.YtelcongbnmfegabGreatDoor
open Go.RowKit Go.Sort Go.Lib

/-- An append of no text. -/
theorem step_txt0 {ops : Array Oper} {o : Oper} {a : Act} {K : Act → World → Prop} {Q : Exit → Act → World → Prop} {E : Prop} (w : World) (hgd : o.guard = none) (s x : Operand)
    (ho : o.op = .call { callee := .builtin .append, args := #[s, x], argTypes := #[32, 32] }) (q : Option Addr) (n cap : Nat) (p : Option Addr) (c : Nat)
    (hs : a.eval s = .slice q n cap) (hcap : n ≤ cap) (hx : a.eval x = .slice p 0 c) (hq : q = none → n = 0 ∧ cap = 0)
    (h : K (a.put o.dst (.slice q n cap)) w) :
    if Region.wanted o (yielded ops a.tmps) = true then Oper.wp Tryz.prog o a w K Q else E := by
  have hw : Region.wanted o (yielded ops a.tmps) = true := by simp [Region.wanted, hgd]
  rw [if_pos hw]
  obtain ⟨i0, hi0, _, _, _⟩ := info_parts Tryz.infoStr
  have hrun : (Builtin.append_ #[32, 32] o.type #[.slice q n cap, .slice p 0 c]).run Tryz.prog w = .ok (.slice q n cap) w := by
    cases q with
    | none =>
      obtain ⟨rfl, rfl⟩ := hq rfl
      cases p <;> simp [Builtin.append_, run_underlying Tryz.underlying32, Builtin.lenOf, Builtin.firstCells, sizeOf, typeInfo, hi0, loadCells, loadCellsFrom]
    | some q =>
      cases p <;> simp [Builtin.append_, run_underlying Tryz.underlying32, Builtin.lenOf, Builtin.firstCells, sizeOf, typeInfo, hi0, storeCells, loadCells, loadCellsFrom, hcap]
  unfold Oper.wp
  simp [execOp, ho, resolve, invoke, builtin, hs, hx, hrun, Result.andThen]
  exact h

/-- The last field's texts are stored as they were. -/
theorem joined_kept {N : Nat} {w : World} {o : List Fx} {x : Fx} {go cp : Nat} (h : OwnJ N w (.slice (some ⟨go, 0, none⟩) (o.length + 1) cp) (o ++ [x])) :
    OwnJ N (w.setCell ⟨go, o.length * 2 + 1, none⟩ x.sl) (.slice (some ⟨go, 0, none⟩) (o.length + 1) cp) (o ++ [x]) := by
  obtain ⟨⟨hrow, htx⟩, hap⟩ := h
  have hlen : (o ++ [x]).length = o.length + 1 := by simp
  rw [hlen] at hrow
  have hst := hrow.stored (o.length * 2 + 1) x.sl
  have hget := (cellsX_get (o ++ [x]) o.length (by simp)).2
  simp only [List.getElem_concat_length] at hget
  have e1 : (cellsX (o ++ [x])).set (o.length * 2 + 1) x.sl = cellsX (o ++ [x]) := by
    apply List.ext_getElem?
    intro j
    rw [List.getElem?_set]
    split
    · rename_i hj
      subst hj
      rw [if_pos (by rw [cellsX_len]; simp; omega)]
      exact hget.symm
    · rfl
  rw [e1] at hst
  refine ⟨⟨by rw [hlen]; exact hst.1, fun y hy => own_else (htx y hy) hrow (by decide) (grown_set w go _ _)⟩, hap⟩

/-- One field more, its texts in a new row. -/
theorem joined_put {N : Nat} {w w4 : World} {v v' : Value} {o : List Fx} {x : Fx} {M : Nat} (h : OwnJ N w v o) (hx : OwnT M w x.sl x.txt) (hM : ∀ y ∈ o, ∀ k, y.sl.ownBlock = some k → k < M) (hNM : N ≤ M)
    (hown : w4.ownsRow N 35 2 v' (o.length + 1) (cellsX o ++ cellsX [x])) (hg : w.grownBy w4 v.ownBlock) : OwnJ N w4 v' (o ++ [x]) := by
  refine ⟨h.1.put (own_weak hx hNM) hown hg, apart_snoc h.2 fun y hy => ?_⟩
  rcases hb : y.sl.ownBlock with _ | k
  · exact Or.inl rfl
  · right
    intro e
    have h1 := hM y hy k hb
    have h2 := (World.ownsRow.lt hx k e.symm).1
    omega

theorem two_one (n : ByteArray) (p : Option Addr) (k c : Nat) : ∀ u ∈ [Value.string n, Value.slice p k c], u.oneCell' = true := by
  intro u hu
  simp at hu
  rcases hu with rfl | rfl <;> rfl

/-- The field f lies in a block of its own. -/
def NewX (w : World) (B : Nat) (f : Fx) : Prop := w.heap[B]? = some (.cells #[.string f.name, .slice f.p f.txt.length f.cap] 35 (0, 0))

/-- An append of one field, at a step of a region that draws. -/
theorem step_putX {ops : Array Oper} {o : Oper} {a : Act} {K : Act → World → Prop} {Q : Exit → Act → World → Prop} {E : Prop} (w : World) (hgd : o.guard = none) (s x : Operand)
    (ho : o.op = .call { callee := .builtin .append, args := #[s, x], argTypes := #[22, 22] }) (N : Nat) (v : Value) (os : List Fx) (n : Nat) (hs : a.eval s = v) (hoj : OwnJ N w v os) (hn : os.length = n) (B : Nat) (f : Fx)
    (hx : a.eval x = .slice (some ⟨B, 0, none⟩) 1 1) (hB : NewX w B f) (hl : (n + 1) * 40 ≤ 140737488355328) (hN : N ≤ w.heap.size)
    (h : ∀ g cap w', w'.ownsRow N 35 2 (.slice (some ⟨g, 0, none⟩) (n + 1) cap) (n + 1) (cellsX os ++ cellsX [f]) → w.grownBy w' v.ownBlock → K (a.put o.dst (.slice (some ⟨g, 0, none⟩) (n + 1) cap)) w') :
    if Region.wanted o (yielded ops a.tmps) = true then Oper.wp Tryz.prog o a w K Q else E := by
  subst hn
  obtain ⟨j0, hj, hj0, hj1, hj2⟩ := info_parts Tryz.infoFld
  refine step_append_lies w hgd s x 22 ho N 35 j0 (.agg #[.string ⟨#[]⟩, .slice none 0 0]) 2 40 Tryz.underlying22 hj hj0 hj1 hj2 rfl (by decide) v os.length (cellsX os) hs hoj.1.1 ⟨B, 0, none⟩ 1 1 (cellsX [f]) hx rfl (fun j u hju => ?_) (cellsX_one _) (by decide) (by unfold maxLen; omega) hl hN _ rfl (fun g cap w' h1 h2 _ _ => h g cap w' h1 h2)
  exact World.news_of_block hB j u hju

/-- The state of joined's loop. -/
def JoinSt (w2 : World) (ds : List Fx) (i : Nat) (v : Value) (wr : World) : Prop :=
  ∃ o : List Fx, OwnJ w2.heap.size wr v o ∧ o.map Fx.fld = joinS ((ds.map Fx.fld).take i) ∧ Below w2.heap.size w2 wr

theorem sl_shape {n0 : Nat} {w : World} {x : Fx} (h : OwnT n0 w x.sl x.txt) : x.txt.length ≤ x.cap ∧ (x.p = none → x.txt.length = 0 ∧ x.cap = 0) := by
  rcases h.2 with ⟨hv, h0⟩ | ⟨g, cap, cur, hv, _, _, h1, _⟩
  · unfold Fx.sl at hv
    injection hv with h1 h2 h3
    rw [h0, h3]
    exact ⟨Nat.le_refl _, fun _ => ⟨rfl, rfl⟩⟩
  · unfold Fx.sl at hv
    injection hv with h3 h4 h5
    rw [h5]
    exact ⟨h1, fun h => by rw [h3] at h; cases h⟩

/-- ds is d, sorted by name, equals in their order. -/
def SortOf (d ds : List Fx) : Prop := ds.Perm d ∧ (ds.Pairwise fun x y => ltOf cmpF y x = false) ∧ ∀ c, ds.filter (fun x => decide (x.name = c)) = d.filter fun x => decide (x.name = c)

theorem sortX_any (u : Value) (d : List Fx) (n0 : Nat) (w : World) (hn : n0 ≤ w.heap.size) (ho : w.ownsRow n0 35 2 u d.length (cellsX d)) (h20 : d.length < 1152921504606846976) :
    Calls Tryz.prog 63 #[u, .func (.func 64) #[] #[]] w fun e w' =>
      e = .returned (.tuple #[]) ∧ ∃ (ds : List Fx) (p : Option Addr) (cap : Nat), u = .slice p ds.length cap ∧ (ds = [] ∨ ∃ g, p = some ⟨g, 0, none⟩ ∧ XsAt w' g 0 ds) ∧ SortOf d ds ∧ Below n0 w w' := by
  rcases ho.2 with ⟨rfl, h0⟩ | ⟨g, cap, cur, rfl, hN, hg, _, _, hsz, htk⟩
  · obtain rfl := List.length_eq_zero_iff.1 h0
    refine (sort_none none 0 _ w).mono ?_
    rintro e w' ⟨rfl, rfl⟩
    exact ⟨rfl, [], none, 0, rfl, Or.inl rfl, ⟨List.Perm.refl _, List.Pairwise.nil, fun _ => rfl⟩, Below.refl _ _⟩
  · have hgl := (Array.getElem?_eq_some_iff.1 hg).1
    have hH : HoldsK encX 2 w g 0 d.toArray := holds_of_heap d.toArray hg (by simpa using htk)
    have hs : d.toArray.size = d.length := by simp
    have hc := sort_any g 0 cap d.toArray w hH hgl (by rw [hs]; exact h20)
    rw [hs] at hc
    refine hc.mono ?_
    rintro e w' ⟨rfl, hso⟩
    obtain ⟨ds, h1, h2, h3, h4, h5⟩ := sorted_xs hH hgl hso
    obtain ⟨d', n, os, _, _, _, hw⟩ := hso
    refine ⟨rfl, ds, _, cap, by rw [h1, hs], Or.inr ⟨g, rfl, h2⟩, ⟨by simpa using h3, h4, by simpa using h5⟩, ?_⟩
    rw [hw]
    exact below_sortWorld (Below.refl _ _) hn g 0 n d' os hN

def JoinPost (w : World) (d : List Fx) (e : Ending) (w' : World) : Prop :=
  ∃ (u : Value) (ds o : List Fx), e = .returned u ∧ SortOf d ds ∧ OwnJ w.heap.size w' u o ∧ o.map Fx.fld = joinS (ds.map Fx.fld) ∧ Below w.heap.size w w'

set_option maxHeartbeats 8000000 in
set_option maxRecDepth 100000 in
theorem joined_any (v : Value) (d : List Fx) (w : World) (hv : IsXs w v d) (hl : d.length * 40 ≤ 140737488355328) (htot : totF (d.map Fx.fld) * 16 ≤ 140737488355328) :
    Calls Tryz.prog 31 #[v] w fun e w' => JoinPost w d e w' := by
  obtain ⟨i0, hi, hz0, hz1, hz2⟩ := info_parts Tryz.infoStr
  obtain ⟨j0, hj, hj0, hj1, hj2⟩ := info_parts Tryz.infoFld
  have HI := hid hi
  have HJ := hid hj
  have HC := hid (cloneX_any v d w hv hl)
  have HTX := hid hv.at_all
  have HTOT := hid htot
  have HL := hid hl
  have h20 : d.length < 1152921504606846976 := by omega
  clear hv hi hj htot hl
  go_enter Tryz.func31, Tryz.ntmps31
  go_wp2_with (first | (go_at_call 62; refine HC.out.mono ?_; rintro e w1 ⟨u1, rfl, ho1, hb1⟩) | (go_at_call 63; refine (sortX_any _ d w.heap.size _ hb1.size ho1 h20).mono ?_; rintro e w2 ⟨rfl, ds, p, cap, rfl, hds, hso, hb2⟩; have HDS := hid hds; have HSO := hid hso; clear hds hso))
  have hbw2 : Below w.heap.size w w2 := hb1.trans hb2
  have hlen : ds.length = d.length := HSO.out.1.length_eq
  have hlz : ds.length ≤ 9223372036854775807 := by omega
  have HTD : Hid (∀ x ∈ ds, x.at w2) := fun x hx => (HTX.out x (HSO.out.1.mem_iff.1 hx)).kept hbw2
  have HTT : Hid (totF (ds.map Fx.fld) * 16 ≤ 140737488355328) := by
    have : totF (ds.map Fx.fld) = totF (d.map Fx.fld) := ((HSO.out.1.map Fx.fld).map _).sum_nat
    show _ ≤ _
    rw [this]; exact HTOT.out
  have HB2 := hid hbw2
  have HL2 : Hid (ds.length * 40 ≤ 140737488355328) := by show _ ≤ _; rw [hlen]; exact HL.out
  clear ho1 hb1 hb2 hbw2 hlen
  have ST0 : Hid (JoinSt w2 ds 0 (.slice none 0 0) w2) := ⟨[], ⟨⟨World.ownsRow_nil _ _ _ _, fun x hx => by simp at hx⟩, List.Pairwise.nil⟩, rfl, Below.refl _ _⟩
  go_loopg [4, 14] ds.length (fun g v4 vi wr => ∃ i : Nat, vi = .int .i64 i ∧ i ≤ ds.length ∧ ds.length - i ≤ g ∧ JoinSt w2 ds i v4 wr)
  case atStart => exact ⟨0, rfl, by omega, by omega, ST0.out⟩
  case round =>
    obtain ⟨i, rfl, hi, hgk, o, hoj, hmap, hb⟩ := hrel
    by_cases hlt : i < ds.length
    · have hltz : (i : Int) < (ds.length : Int) := by omega
      have hiz : (0 : Int) ≤ i := by omega
      obtain ⟨g, rfl, hxs⟩ : ∃ g, p = some ⟨g, 0, none⟩ ∧ XsAt w2 g 0 ds := by
        rcases HDS.out with h | h
        · rw [h] at hlt; simp at hlt
        · exact h
      have hcs := hxs i hlt
      have c0 : wr.cell? ⟨g, i * 2, none⟩ = some (.string ds[i].name) := by
        have := (hb.cell (p := ⟨g, 0 + i * 2, none⟩) (cell_block hcs.1)).trans hcs.1
        simpa using this
      have c1 : wr.cell? ⟨g, i * 2 + 1, none⟩ = some ds[i].sl := by
        have := (hb.cell (p := ⟨g, 0 + i * 2 + 1, none⟩) (cell_block hcs.2)).trans hcs.2
        simpa using this
      have hfi : (ds[i]).at w2 := HTD.out _ (List.getElem_mem hlt)
      have htk : (ds.map Fx.fld).take (i + 1) = (ds.map Fx.fld).take i ++ [ds[i].fld] := by
        rw [List.take_succ_eq_append_getElem (by rw [List.length_map]; exact hlt)]; simp
      obtain ⟨f, hf⟩ : ∃ f, ds[i] = f := ⟨_, rfl⟩
      rw [hf] at c0 c1 hfi htk
      have hbound : (totF (o.map Fx.fld) + f.txt.length) * 16 ≤ 140737488355328 := by
        have h1 : totF ((ds.map Fx.fld).take (i + 1)) ≤ totF (ds.map Fx.fld) := by
          conv => rhs; rw [← List.take_append_drop (i + 1) (ds.map Fx.fld), totF_append]
          omega
        rw [htk, totF_append, totF_one, ← totF_joinS, ← hmap] at h1
        have h2 := HTT.out
        have h3 : (f.fld).2.length = f.txt.length := rfl
        omega
      have holen : o.length ≤ i := by
        have h1 := joinS_len ((ds.map Fx.fld).take i)
        rw [← hmap, List.length_map, List.length_take] at h1
        omega
      have HBND := hid hbound
      have HFI := hid (hfi.kept hb)
      have HNX : Hid (joinS ((ds.map Fx.fld).take (i + 1)) = joinStep (o.map Fx.fld) f.fld) := by show _ = _; rw [htk, joinS_snoc, hmap]
      have HB := hid hb
      have hsz := hb.size
      clear hxs hcs hfi htk hf hmap hb hbound
      unfold Fx.sl at c1
      rcases List.eq_nil_or_concat o with rfl | ⟨o', x, rfl⟩
      · obtain ⟨p4, cp4, rfl⟩ : ∃ p cp, u4 = .slice p 0 cp := by
          rcases hoj.1.1.2 with ⟨hv, _⟩ | ⟨g4, cap4, cur, hv, _⟩
          · exact ⟨none, 0, hv⟩
          · exact ⟨_, _, hv⟩
        have HUL : Hid (∀ k, (Value.slice p4 0 cp4).ownBlock = some k → k < wr.heap.size) := fun k hk => (World.ownsRow.lt hoj.1.1 k hk).2
        have cb : decide ((0 : Int) ≤ -1) = false := by decide
        have HOJ := hid hoj
        clear hoj
        go_wp2_with fail
        obtain ⟨W1, hW1⟩ : ∃ W1, wr.alloc (.cells #[.string f.name, .slice f.p f.txt.length f.cap] 35) = W1 := ⟨_, rfl⟩
        have hgr1 : Below wr.heap.size wr W1 := by rw [← hW1]; exact (Below.refl _ _).alloc (Nat.le_refl _) _
        have b0 : W1.cell? ⟨wr.heap.size, 0, none⟩ = some (.string f.name) := by rw [← hW1]; simp
        have b1 : W1.cell? ⟨wr.heap.size, 1, none⟩ = some (.slice f.p f.txt.length f.cap) := by rw [← hW1]; simp
        have HOJ1 := hid (HOJ.out.on hgr1)
        have HFI1 := hid (HFI.out.kept hgr1)
        have HB1 := hid (HB.out.trans (hgr1.mono hsz))
        have HJS : Hid (joinStep (([] : List Fx).map Fx.fld) f.fld = (([] : List Fx).map Fx.fld) ++ [f.fld]) := rfl
        rw [hW1]
        clear c0 c1 hgr1 hW1
        · go_quiet (fail)
          go_wp2_with fail
          have b0' : (W1.drewN nq).cell? ⟨wr.heap.size, 0, none⟩ = some (.string f.name) := b0
          have b1' : (W1.drewN nq).cell? ⟨wr.heap.size, 1, none⟩ = some (.slice f.p f.txt.length f.cap) := b1
          have HOJ2 : Hid (OwnJ w2.heap.size (W1.drewN nq).drew (.slice p4 0 cp4) []) := HOJ1.out
          have HFI2 : Hid (f.at (W1.drewN nq)) := HFI1.out
          have HB3 : Hid (Below w2.heap.size w2 (W1.drewN nq).drew) := (bel_drewN HB1.out nq).drew
          clear b0 b1
          generalize W1.drewN nq = W2 at b0' b1' HOJ2 HFI2 HB3 ⊢
          have F0 : Hid (∀ w' : World, Below W2.drew.heap.size W2.drew w' → w'.cell? ⟨wr.heap.size, 0, none⟩ = some (.string f.name) ∧ w'.cell? ⟨wr.heap.size, 1, none⟩ = some (.slice f.p f.txt.length f.cap)) := fun w' hb => ⟨(hb.cell (p := ⟨wr.heap.size, 0, none⟩) (cell_block (w := W2.drew) b0')).trans b0', (hb.cell (p := ⟨wr.heap.size, 1, none⟩) (cell_block (w := W2.drew) b1')).trans b1'⟩
          have HCT := hid (cloneT_any f.p f.cap f.txt W2.drew HFI2.out (by have := HBND.out; omega))
          have hFl : wr.heap.size < W2.heap.size := cell_block b0'
          have FA : Hid (∀ w3 w4 : World, (w3.cell? ⟨wr.heap.size, 0, none⟩ = some (.string f.name) ∧ w3.cell? ⟨wr.heap.size, 1, none⟩ = some (.slice f.p f.txt.length f.cap)) → w3.grownBy w4 (Value.slice p4 0 cp4).ownBlock → w4.cell? ⟨wr.heap.size, 0, none⟩ = some (.string f.name) ∧ w4.cell? ⟨wr.heap.size, 1, none⟩ = some (.slice f.p f.txt.length f.cap)) := fun w3 w4 h hg =>
            ⟨(hg.cell_far ⟨wr.heap.size, 0, none⟩ (cell_block h.1) (fun e => Nat.lt_irrefl _ (HUL.out _ e.symm))).trans h.1, (hg.cell_far ⟨wr.heap.size, 1, none⟩ (cell_block h.2) (fun e => Nat.lt_irrefl _ (HUL.out _ e.symm))).trans h.2⟩
          go_region_held3 (fun w' => w'.cell? ⟨wr.heap.size, 0, none⟩ = some (.string f.name) ∧ w'.cell? ⟨wr.heap.size, 1, none⟩ = some (.slice f.p f.txt.length f.cap))
            (first | exact ⟨b0', b1'⟩ | exact q5 | exact q6 | exact q7)
            (first
              | (go_at_call 49; refine HCT.out.mono ?_; rintro e w5 ⟨sv, rfl, hot5, hb5⟩; obtain ⟨pc, capc, rfl⟩ := own_slice hot5; have q5 := F0.out w5 hb5; have hb6 : Below W2.drew.heap.size W2.drew (w5.alloc (.cells #[.string f.name, .slice pc f.txt.length capc] 35)) := Below.alloc hb5 hb5.size _; have q6 := F0.out _ hb6; have hoj6 : OwnJ w2.heap.size (w5.alloc (.cells #[.string f.name, .slice pc f.txt.length capc] 35)) (Value.slice p4 0 cp4) ([] : List Fx) := OwnJ.on (w := W2.drew) HOJ2.out hb6; have hnew6 : NewX (w5.alloc (.cells #[.string f.name, .slice pc f.txt.length capc] 35)) w5.heap.size ⟨f.name, pc, capc, f.txt⟩ := heap_alloc_new w5 _; have hbase6 : w2.heap.size ≤ (w5.alloc (.cells #[.string f.name, .slice pc f.txt.length capc] 35)).heap.size := Nat.le_trans HB3.out.size hb6.size)
              | (refine step_putX _ (by rfl) (.tmp 45) (.tmp 52) (by rfl) w2.heap.size (Value.slice p4 0 cp4) ([] : List Fx) 0 (by rfl) (by assumption) (by simp) _ _ (by rfl) (by assumption) (by have := HL2.out; omega) (by assumption) ?_; intro g7 cap7 w7 hown7 hg7; have q7 := FA.out _ _ (by assumption) hg7))
          have hoj7 := joined_put (x := ⟨f.name, pc, capc, f.txt⟩) (M := W2.drew.heap.size) hoj6 (OwnT.on hot5 ((Below.refl _ _).alloc (Nat.le_refl _) _)) (fun y hy k hk => (World.ownsRow.lt (HOJ2.out.1.2 y hy) k hk).2) HB3.out.size hown7 hg7
          have HB7 : Hid (Below w2.heap.size w2 w7) := (HB3.out.trans (hb6.mono HB3.out.size)).grown hg7 hbase6 (fun k hk => (World.ownsRow.lt hoj6.1.1 k hk).1)
          have HOJ7 := hid hoj7
          clear hoj7 hown7 hg7 hoj6 hnew6 hot5 hb5 hb6 q5 q6 q7
          go_wp2_with fail
          go_roundg (ds.length - (i + 1))
          case measure => omega
          refine ⟨i + 1, by go_num, by omega, by omega, _, HOJ7.out, ?_, HB7.out⟩
          rw [HNX.out, HJS.out, List.map_append]
          rfl
      · rw [List.concat_eq_append] at *
        obtain ⟨go, cp, rfl, hNgo, hgol⟩ := hoj.1.1.form (by simp)
        have hol : (o' ++ [x]).length = o'.length + 1 := by simp
        rw [hol] at hoj ⊢ holen
        have hgo0 : wr.cell? ⟨go, o'.length * 2, none⟩ = some (.string x.name) := by
          have h1 := hoj.1.1
          rw [hol] at h1
          have h2 := cellsX_get (o' ++ [x]) o'.length (by simp)
          simp only [List.getElem_concat_length] at h2
          rw [h1.cellAt _ (by omega)]; exact h2.1
        have hgo1 : wr.cell? ⟨go, o'.length * 2 + 1, none⟩ = some (.slice x.p x.txt.length x.cap) := by
          have h1 := hoj.1.1
          rw [hol] at h1
          have h2 := cellsX_get (o' ++ [x]) o'.length (by simp)
          simp only [List.getElem_concat_length] at h2
          rw [h1.cellAt _ (by omega)]; exact h2.2
        have hz : (o'.length : Int) + 1 - 1 = (o'.length : Int) := by omega
        have z1 : (0 : Int) ≤ (o'.length : Int) := by omega
        have z2 : (o'.length : Int) < (o'.length : Int) + 1 := by omega
        have z3 : o'.length ≤ 9223372036854775806 := by omega
        have HOJ := hid hoj
        clear hoj
        go_wp2_with fail
        obtain ⟨W1, hW1⟩ : ∃ W1, wr.alloc (.cells #[.string f.name, .slice f.p f.txt.length f.cap] 35) = W1 := ⟨_, rfl⟩
        have hgr1 : Below wr.heap.size wr W1 := by rw [← hW1]; exact (Below.refl _ _).alloc (Nat.le_refl _) _
        have b0 : W1.cell? ⟨wr.heap.size, 0, none⟩ = some (.string f.name) := by rw [← hW1]; simp
        have b1 : W1.cell? ⟨wr.heap.size, 1, none⟩ = some (.slice f.p f.txt.length f.cap) := by rw [← hW1]; simp
        have r0 : W1.cell? ⟨go, o'.length * 2, none⟩ = some (.string x.name) := (hgr1.cell (p := ⟨go, o'.length * 2, none⟩) hgol).trans hgo0
        have r1 : W1.cell? ⟨go, o'.length * 2 + 1, none⟩ = some (.slice x.p x.txt.length x.cap) := (hgr1.cell (p := ⟨go, o'.length * 2 + 1, none⟩) hgol).trans hgo1
        have HOJ1 := hid (HOJ.out.on hgr1)
        have HFI1 := hid (HFI.out.kept hgr1)
        have HB1 := hid (HB.out.trans (hgr1.mono hsz))
        rw [hW1]
        clear c0 c1 hgo0 hgo1 hgr1 hW1
        cases hq : (x.name.toList == f.name.toList) with
        | true =>
          have hnm : x.name = f.name := by rw [toList_eq, decide_eq_true_eq] at hq; exact hq
          have HJS : Hid (joinStep ((o' ++ [x]).map Fx.fld) f.fld = (o'.map Fx.fld) ++ [(x.name, x.txt ++ f.txt)]) := by
            show _ = _
            rw [List.map_append]
            exact joinStep_same _ _ _ hnm
          have hxt : x.txt.length + f.txt.length ≤ totF ((o' ++ [x]).map Fx.fld) + f.txt.length := by
            have := totF_mem (fs := (o' ++ [x]).map Fx.fld) (f := x.fld) (List.mem_map.2 ⟨x, by simp, rfl⟩)
            simp only [Fx.fld] at this; omega
          have hxb : (x.txt.length + f.txt.length) * 16 ≤ 140737488355328 := by have := HBND.out; omega
          clear hxt hnm
          go_quiet (fail)
          go_wp2_with fail
          have b1' : (W1.drewN nq).cell? ⟨wr.heap.size, 1, none⟩ = some (.slice f.p f.txt.length f.cap) := b1
          have r1' : (W1.drewN nq).cell? ⟨go, o'.length * 2 + 1, none⟩ = some (.slice x.p x.txt.length x.cap) := r1
          have HOJ2 : Hid (OwnJ w2.heap.size (W1.drewN nq).drew (.slice (some ⟨go, 0, none⟩) (o'.length + 1) cp) (o' ++ [x])) := HOJ1.out
          have HFI2 : Hid (f.at (W1.drewN nq)) := HFI1.out
          have HB3 : Hid (Below w2.heap.size w2 (W1.drewN nq).drew) := (bel_drewN HB1.out nq).drew
          clear b0 b1 r0 r1
          generalize W1.drewN nq = W2 at b1' r1' HOJ2 HFI2 HB3 ⊢
          have fz : W2.frozen? ⟨go, o'.length * 2 + 1, none⟩ = false := by
            have h1 := HOJ2.out.1.1
            rw [hol] at h1
            exact h1.frozenAt _
          by_cases hf0 : f.txt = []
          · have hf0l : f.txt.length = 0 := by rw [hf0]; rfl
            have HSH := hid (sl_shape (HOJ2.out.1.2 x (by simp)))
            have HOK := hid (joined_kept HOJ2.out)
            rw [hf0l] at b1' ⊢
            go_region_law (first
              | (refine step_txt0 _ (by rfl) (.tmp 39) (.tmp 41) (by rfl) x.p x.txt.length x.cap f.p f.cap (by rfl) HSH.out.1 (by rfl) HSH.out.2 ?_))
            all_goals
              go_wp2_with fail
              go_roundg (ds.length - (i + 1))
              case measure => omega
              refine ⟨i + 1, by go_num, by omega, by omega, o' ++ [x], HOK.out, ?_, HB3.out.setCell (p := ⟨go, o'.length * 2 + 1, none⟩) hNgo _⟩
              rw [HNX.out, HJS.out, hf0, List.append_nil, List.map_append]
              rfl
          · obtain ⟨b, off, hfp, hcl⟩ : ∃ b off, f.p = some ⟨b, off, none⟩ ∧ ∀ i, (h : i < f.txt.length) → W2.cell? ⟨b, off + i, none⟩ = some (.string f.txt[i]) := by
              rcases HFI2.out with h | h
              · exact absurd h hf0
              · exact h
            have hpos : 0 < f.txt.length := List.length_pos_iff.2 hf0
            rw [hfp] at b1' ⊢
            have HOT : Hid (OwnT w2.heap.size W2.drew x.sl x.txt) := HOJ2.out.1.2 x (by simp)
            have HCL : Hid (∀ j u, (f.txt.map Value.string)[j]? = some u → W2.drew.cell? ((⟨b, off, none⟩ : Addr).add j) = some u) := fun j u hj => by
              rw [addr_add]
              have hjl : j < f.txt.length := by have := (List.getElem?_eq_some_iff.1 hj).1; simpa using this
              rw [List.getElem?_map, List.getElem?_eq_getElem hjl] at hj
              rw [← Option.some.inj hj]
              exact hcl j hjl
            have HNB : Hid (w2.heap.size ≤ W2.drew.heap.size) := HB3.out.size
            clear hcl
            go_region_law (first
              | (refine step_append_lies _ (by rfl) (.tmp 39) (.tmp 41) 32 (by rfl) w2.heap.size 9 i0 (.string ⟨#[]⟩) 1 16 Tryz.underlying32 HI.out hz0 hz1 hz2 rfl (by decide) x.sl x.txt.length (x.txt.map Value.string) (by rfl) HOT.out ⟨b, off, none⟩ f.txt.length f.cap (f.txt.map Value.string) (by rfl) (by simp) HCL.out (by intro u hu; obtain ⟨t, _, rfl⟩ := List.mem_map.1 hu; rfl) hpos (by unfold maxLen; omega) hxb HNB.out _ rfl ?_; intro g4 cap4 w4 hown4 hg4 hat4 hlt4; obtain ⟨k1, k2, hoj4⟩ := joined_grown HOJ2.out hown4 hg4 hat4))
            all_goals
              have HOJ4 := hid hoj4
              have HB4 : Hid (Below w2.heap.size w2 w4) := HB3.out.grown hg4 HNB.out (fun k hk => (World.ownsRow.lt HOT.out k hk).1)
              clear hoj4 hown4 hg4 hat4
              go_wp2_with fail
              go_roundg (ds.length - (i + 1))
              case measure => omega
              refine ⟨i + 1, by go_num, by omega, by omega, _, HOJ4.out, ?_, HB4.out.setCell (p := ⟨go, o'.length * 2 + 1, none⟩) hNgo _⟩
              rw [HNX.out, HJS.out, List.map_append]
              rfl
        | false =>
          have hnm : x.name ≠ f.name := by rw [toList_eq, decide_eq_false_iff_not] at hq; exact hq
          have HJS : Hid (joinStep ((o' ++ [x]).map Fx.fld) f.fld = ((o' ++ [x]).map Fx.fld) ++ [f.fld]) := by
            show _ = _
            rw [List.map_append]
            exact joinStep_other _ _ _ hnm
          clear hnm
          go_quiet (fail)
          go_wp2_with fail
          have b0' : (W1.drewN nq).cell? ⟨wr.heap.size, 0, none⟩ = some (.string f.name) := b0
          have b1' : (W1.drewN nq).cell? ⟨wr.heap.size, 1, none⟩ = some (.slice f.p f.txt.length f.cap) := b1
          have HOJ2 : Hid (OwnJ w2.heap.size (W1.drewN nq).drew (.slice (some ⟨go, 0, none⟩) (o'.length + 1) cp) (o' ++ [x])) := HOJ1.out
          have HFI2 : Hid (f.at (W1.drewN nq)) := HFI1.out
          have HB3 : Hid (Below w2.heap.size w2 (W1.drewN nq).drew) := (bel_drewN HB1.out nq).drew
          clear b0 b1 r0 r1
          generalize W1.drewN nq = W2 at b0' b1' HOJ2 HFI2 HB3 ⊢
          have F0 : Hid (∀ w' : World, Below W2.drew.heap.size W2.drew w' → w'.cell? ⟨wr.heap.size, 0, none⟩ = some (.string f.name) ∧ w'.cell? ⟨wr.heap.size, 1, none⟩ = some (.slice f.p f.txt.length f.cap)) := fun w' hb => ⟨(hb.cell (p := ⟨wr.heap.size, 0, none⟩) (cell_block (w := W2.drew) b0')).trans b0', (hb.cell (p := ⟨wr.heap.size, 1, none⟩) (cell_block (w := W2.drew) b1')).trans b1'⟩
          have HCT := hid (cloneT_any f.p f.cap f.txt W2.drew HFI2.out (by have := HBND.out; omega))
          have hFl : wr.heap.size < W2.heap.size := cell_block b0'
          have FA : Hid (∀ w3 w4 : World, (w3.cell? ⟨wr.heap.size, 0, none⟩ = some (.string f.name) ∧ w3.cell? ⟨wr.heap.size, 1, none⟩ = some (.slice f.p f.txt.length f.cap)) → w3.grownBy w4 (Value.slice (some ⟨go, 0, none⟩) (o'.length + 1) cp).ownBlock → w4.cell? ⟨wr.heap.size, 0, none⟩ = some (.string f.name) ∧ w4.cell? ⟨wr.heap.size, 1, none⟩ = some (.slice f.p f.txt.length f.cap)) := fun w3 w4 h hg =>
            ⟨(hg.cell_far ⟨wr.heap.size, 0, none⟩ (cell_block h.1) (fun e => by have : wr.heap.size = go := (by simpa [Value.ownBlock] using e); omega)).trans h.1, (hg.cell_far ⟨wr.heap.size, 1, none⟩ (cell_block h.2) (fun e => by have : wr.heap.size = go := (by simpa [Value.ownBlock] using e); omega)).trans h.2⟩
          go_region_held3 (fun w' => w'.cell? ⟨wr.heap.size, 0, none⟩ = some (.string f.name) ∧ w'.cell? ⟨wr.heap.size, 1, none⟩ = some (.slice f.p f.txt.length f.cap))
            (first | exact ⟨b0', b1'⟩ | exact q5 | exact q6 | exact q7)
            (first
              | (go_at_call 49; refine HCT.out.mono ?_; rintro e w5 ⟨sv, rfl, hot5, hb5⟩; obtain ⟨pc, capc, rfl⟩ := own_slice hot5; have q5 := F0.out w5 hb5; have hb6 : Below W2.drew.heap.size W2.drew (w5.alloc (.cells #[.string f.name, .slice pc f.txt.length capc] 35)) := Below.alloc hb5 hb5.size _; have q6 := F0.out _ hb6; have hoj6 : OwnJ w2.heap.size (w5.alloc (.cells #[.string f.name, .slice pc f.txt.length capc] 35)) (Value.slice (some ⟨go, 0, none⟩) (o'.length + 1) cp) (o' ++ [x]) := OwnJ.on (w := W2.drew) HOJ2.out hb6; have hnew6 : NewX (w5.alloc (.cells #[.string f.name, .slice pc f.txt.length capc] 35)) w5.heap.size ⟨f.name, pc, capc, f.txt⟩ := heap_alloc_new w5 _; have hbase6 : w2.heap.size ≤ (w5.alloc (.cells #[.string f.name, .slice pc f.txt.length capc] 35)).heap.size := Nat.le_trans HB3.out.size hb6.size)
              | (refine step_putX _ (by rfl) (.tmp 45) (.tmp 52) (by rfl) w2.heap.size (Value.slice (some ⟨go, 0, none⟩) (o'.length + 1) cp) (o' ++ [x]) (o'.length + 1) (by rfl) (by assumption) (by simp) _ _ (by rfl) (by assumption) (by have := HL2.out; omega) (by assumption) ?_; intro g7 cap7 w7 hown7 hg7; have q7 := FA.out _ _ (by assumption) hg7))
          have hoj7 := joined_put (x := ⟨f.name, pc, capc, f.txt⟩) (M := W2.drew.heap.size) hoj6 (OwnT.on hot5 ((Below.refl _ _).alloc (Nat.le_refl _) _)) (fun y hy k hk => (World.ownsRow.lt (HOJ2.out.1.2 y hy) k hk).2) HB3.out.size (by rw [hol]; exact hown7) hg7
          have HB7 : Hid (Below w2.heap.size w2 w7) := (HB3.out.trans (hb6.mono HB3.out.size)).grown hg7 hbase6 (fun k hk => (World.ownsRow.lt hoj6.1.1 k hk).1)
          have HOJ7 := hid hoj7
          clear hoj7 hown7 hg7 hoj6 hnew6 hot5 hb5 hb6 q5 q6 q7
          go_wp2_with fail
          go_roundg (ds.length - (i + 1))
          case measure => omega
          refine ⟨i + 1, by go_num, by omega, by omega, _, HOJ7.out, ?_, HB7.out⟩
          rw [HNX.out, HJS.out, List.map_append]
          rfl
    · have hltz : ¬ (i : Int) < (ds.length : Int) := by omega
      obtain rfl : i = ds.length := by omega
      have HP : Hid (OwnJ w2.heap.size wr u4 o ∧ o.map Fx.fld = joinS (ds.map Fx.fld) ∧ Below w2.heap.size w2 wr) := by
        rw [List.take_of_length_le (by simp)] at hmap
        exact ⟨hoj, hmap, hb⟩
      clear hoj hmap hb
      go_wp2_with fail
      go_ret
      obtain ⟨h1, h2, h3⟩ := HP.out
      have hsz := HB2.out.size
      exact ⟨_, ds, o, rfl, HSO.out, ⟨⟨own_weak h1.1.1 hsz, fun x hx => own_weak (h1.1.2 x hx) hsz⟩, h1.2⟩, h2, HB2.out.trans (h3.mono hsz)⟩

end Go.Proofs.YtelcongbnmfegabGreatDoor

/-
  The contract of Norm.
-/
namespace Go.Proofs.YtelcongbnmfegabGreatDoor
open Go.RowKit Go.Sort Go.Lib

theorem joinS_all {P : ByteArray → Prop} {Q : ByteArray → Prop} (fs : List Fld) (h : ∀ f ∈ fs, P f.1 ∧ ∀ t ∈ f.2, Q t) : ∀ f ∈ joinS fs, P f.1 ∧ ∀ t ∈ f.2, Q t := by
  have : ∀ (l o : List Fld), (∀ f ∈ l, P f.1 ∧ ∀ t ∈ f.2, Q t) → (∀ f ∈ o, P f.1 ∧ ∀ t ∈ f.2, Q t) → ∀ f ∈ l.foldl joinStep o, P f.1 ∧ ∀ t ∈ f.2, Q t := by
    intro l
    induction l with
    | nil => intro o _ ho; exact ho
    | cons g l ih =>
      intro o hl ho
      rw [List.foldl_cons]
      refine ih _ (fun f hf => hl f (by simp [hf])) ?_
      have hg := hl g (by simp)
      rcases List.eq_nil_or_concat o with rfl | ⟨o', x, rfl⟩
      · intro f hf; rw [joinStep_nil, List.mem_singleton] at hf; subst hf; exact hg
      · rw [List.concat_eq_append] at ho ⊢
        have hx := ho x (by simp)
        by_cases e : x.1 = g.1
        · rw [joinStep_same _ _ _ e]
          intro f hf
          rw [List.mem_append, List.mem_singleton] at hf
          rcases hf with hf | rfl
          · exact ho f (by simp [hf])
          · refine ⟨hx.1, fun t ht => ?_⟩
            rw [List.mem_append] at ht
            exact ht.elim (hx.2 t) (hg.2 t)
        · rw [joinStep_other _ _ _ e]
          intro f hf
          rw [List.mem_append, List.mem_singleton] at hf
          rcases hf with hf | rfl
          · exact ho f hf
          · exact hg
  exact this fs [] h (fun f hf => by simp at hf)

theorem enters_misnamed : ∀ args w, (callFunc 30 args).run Tryz.prog w = .ok (.enter 30 args) w := enters_of Tryz.func30 (by kernel_rfl) rfl
theorem enters_bare : ∀ args w, (callFunc 32 args).run Tryz.prog w = .ok (.enter 32 args) w := enters_of Tryz.func32 (by kernel_rfl) rfl

/-- A field whose name a machine can hold. -/
def Fy : Type := { x : Fx // x.name.size ≤ maxLen }
def fyNone : Fy := ⟨⟨⟨#[]⟩, none, 0, []⟩, Nat.zero_le _⟩

def misB (f : Fld) : Bool := !fieldB f.1.data.toList
def bareB (f : Fld) : Bool := f.2.isEmpty

set_option maxHeartbeats 1000000 in
theorem has_none (p : Option Addr) (c : Nat) (fv : Value) (w : World) :
    Calls Tryz.prog 29 #[.slice p 0 c, fv] w fun e w' => e = .returned (.bool false) ∧ w' = w := by
  have hix : Calls Tryz.prog 61 #[.slice p 0 c, fv] w fun e w' => e = .returned (.int .i64 (-1)) ∧ w' = w := by
    go_enter Tryz.func61, Tryz.ntmps61
    go_wp2_with fail
    refine wp_loop_rounds 1 ?_
    rw [rounds_succ]
    go_wp2_with fail
    go_ret
    exact ⟨rfl, rfl⟩
  have HX := hid hix
  clear hix
  go_enter Tryz.func29, Tryz.ntmps29
  go_wp2_with (first | (go_at_call 61; refine HX.out.mono ?_; rintro e w1 ⟨rfl, rfl⟩))
  go_ret
  exact ⟨rfl, rfl⟩

theorem xs_enc {w : World} {b off : Nat} {d : List Fx} (h : XsAt w b off d) (j : Nat) (hj : j < d.length) (i : Nat) (v : Value) (hv : (encX d[j])[i]? = some v) : w.cell? ⟨b, off + j * 2 + i, none⟩ = some v := by
  obtain ⟨c0, c1⟩ := h j hj
  match i, hv with
  | 0, hv => simp [encX] at hv; subst hv; exact c0
  | 1, hv => simp [encX] at hv; subst hv; exact c1

theorem hasMis_any (v : Value) (d : List Fx) (w : World) (hv : IsXs w v d) (hf : FitX d) :
    Calls Tryz.prog 29 #[v, .func (.func 30) #[] #[]] w fun e w' => e = .returned (.bool ((d.map Fx.fld).any misB)) ∧ Below w.heap.size w w' := by
  obtain ⟨p, cap, rfl, hd, _⟩ := hv
  rcases hd with rfl | ⟨b, off, rfl, hx⟩
  · refine (has_none p cap _ w).mono ?_
    rintro e w' ⟨rfl, rfl⟩
    exact ⟨rfl, Below.refl _ _⟩
  · by_cases h0 : d = []
    · subst h0
      refine (has_none _ cap _ w).mono ?_
      rintro e w' ⟨rfl, rfl⟩
      exact ⟨rfl, Below.refl _ _⟩
    · have hlen : 0 < d.length := List.length_pos_iff.2 h0
      have hfn : ∀ x ∈ d, x.name.size ≤ maxLen := fun x hx => (hf.2 x hx).1
      have hl := hf.1
      unfold maxLen at hl
      obtain ⟨zs, hzs⟩ : ∃ zs : List Fy, zs.map (·.1) = d := ⟨d.attachWith _ hfn, List.attachWith_map_subtype_val ..⟩
      have hzl : zs.length = d.length := by rw [← hzs, List.length_map]
      letI : Inhabited Fy := ⟨fyNone⟩
      have hc := AnyQ.slices_ContainsFunc (α := Fy) Tryz.hasFld 2 Tryz.isAgg35 Tryz.sizeOf35 (fun x => encX x.1) (fun _ => rfl) (fun x => misB x.1.fld) 30 #[] enters_misnamed b off d.length cap zs w
        (fun W x hb => (misnamed_any x.1 W x.2).mono fun _ _ ⟨h1, h2⟩ => ⟨h1, hb.trans (h2.below.mono hb.size)⟩) (by omega) (by omega) (cell_block (hx 0 hlen).1)
        (fun j hj i u hu => by
          have hj' : j < d.length := by omega
          rw [getElem!_pos zs j hj] at hu
          have e : (zs[j]).1 = d[j] := by subst hzs; simp
          rw [e] at hu
          exact xs_enc hx j hj' i u hu)
      change Calls Tryz.prog 29 _ _ _ at hc
      refine hc.mono ?_
      rintro e w' ⟨rfl, hb⟩
      refine ⟨ret_bool ?_, hb⟩
      rw [List.take_of_length_le (by omega), ← hzs]
      simp [List.any_map, Function.comp_def]

theorem hasBare_any (v : Value) (d : List Fx) (w : World) (hv : IsXs w v d) (hl : d.length ≤ maxLen) :
    Calls Tryz.prog 29 #[v, .func (.func 32) #[] #[]] w fun e w' => e = .returned (.bool ((d.map Fx.fld).any bareB)) ∧ Below w.heap.size w w' := by
  obtain ⟨p, cap, rfl, hd, _⟩ := hv
  unfold maxLen at hl
  rcases hd with rfl | ⟨b, off, rfl, hx⟩
  · refine (has_none p cap _ w).mono ?_
    rintro e w' ⟨rfl, rfl⟩
    exact ⟨rfl, Below.refl _ _⟩
  · by_cases h0 : d = []
    · subst h0
      refine (has_none _ cap _ w).mono ?_
      rintro e w' ⟨rfl, rfl⟩
      exact ⟨rfl, Below.refl _ _⟩
    · have hlen : 0 < d.length := List.length_pos_iff.2 h0
      have hc := AnyQ.slices_ContainsFunc (α := Fx) Tryz.hasFld 2 Tryz.isAgg35 Tryz.sizeOf35 encX (fun _ => rfl) (fun x => bareB x.fld) 32 #[] enters_bare b off d.length cap d w
        (fun W x hb => (bare_any x W).mono fun _ _ ⟨h1, h2⟩ => ⟨h1, hb.trans (h2.below.mono hb.size)⟩) (by omega) (by omega) (cell_block (hx 0 hlen).1)
        (fun j hj i u hu => by
          rw [getElem!_pos d j hj] at hu
          exact xs_enc hx j hj i u hu)
      change Calls Tryz.prog 29 _ _ _ at hc
      refine hc.mono ?_
      rintro e w' ⟨rfl, hb⟩
      refine ⟨ret_bool ?_, hb⟩
      rw [List.take_length]
      simp [List.any_map, Function.comp_def]

/-- What Norm answers. -/
def NormPost (w : World) (d : List Fx) (e : Ending) (w' : World) : Prop :=
  (((d.map Fx.fld).any misB = true ∧ e = .returned (.tuple #[.slice none 0 0, .int .i64 2])) ∨
   ((d.map Fx.fld).any misB = false ∧ ∃ ds, SortOf d ds ∧
     (((joinS (ds.map Fx.fld)).any bareB = true ∧ e = .returned (.tuple #[.slice none 0 0, .int .i64 3])) ∨
      ((joinS (ds.map Fx.fld)).any bareB = false ∧ mayB (joinS (ds.map Fx.fld)) = false ∧ e = .returned (.tuple #[.slice none 0 0, .int .i64 5])) ∨
      ((joinS (ds.map Fx.fld)).any bareB = false ∧ mayB (joinS (ds.map Fx.fld)) = true ∧ ∃ u o, e = .returned (.tuple #[u, .int .i64 0]) ∧ OwnJ w.heap.size w' u o ∧ o.map Fx.fld = joinS (ds.map Fx.fld))))) ∧ Below w.heap.size w w'

theorem joined_fit {d ds o : List Fx} (hf : FitX d) (hso : SortOf d ds) (ho : o.map Fx.fld = joinS (ds.map Fx.fld)) (htot : totF (d.map Fx.fld) * 16 ≤ 140737488355328) : FitX o := by
  have hall : ∀ f ∈ ds.map Fx.fld, f.1.size ≤ maxLen ∧ ∀ t ∈ f.2, t.size ≤ maxLen := fun f hf' => by
    obtain ⟨x, hx, rfl⟩ := List.mem_map.1 hf'
    have := hf.2 x (hso.1.mem_iff.1 hx)
    exact ⟨this.1, this.2.2⟩
  have hj := joinS_all (P := fun n => n.size ≤ maxLen) (Q := fun t => t.size ≤ maxLen) _ hall
  have htt : totF (joinS (ds.map Fx.fld)) = totF (d.map Fx.fld) := by
    rw [totF_joinS]; exact ((hso.1.map Fx.fld).map _).sum_nat
  refine ⟨?_, fun x hx => ?_⟩
  · have h1 := joinS_len (ds.map Fx.fld)
    rw [← ho, List.length_map, List.length_map] at h1
    have := hso.1.length_eq
    have := hf.1
    omega
  · have hm : x.fld ∈ joinS (ds.map Fx.fld) := by rw [← ho]; exact List.mem_map.2 ⟨x, hx, rfl⟩
    obtain ⟨h1, h2⟩ := hj _ hm
    refine ⟨h1, ?_, h2⟩
    have := totF_mem hm
    rw [htt] at this
    unfold maxLen
    omega

set_option maxHeartbeats 2000000 in
set_option maxRecDepth 100000 in
theorem norm_any (v : Value) (d : List Fx) (w : World) (hv : IsXs w v d) (hf : FitX d) (hl : d.length * 40 ≤ 140737488355328) (htot : totF (d.map Fx.fld) * 16 ≤ 140737488355328) :
    Calls Tryz.prog 14 #[v] w fun e w' => NormPost w d e w' := by
  have HM := hid (hasMis_any v d w hv hf)
  cases hmis : (d.map Fx.fld).any misB with
  | true =>
    rw [hmis] at HM
    clear hv
    go_enter Tryz.func14, Tryz.ntmps14
    go_wp2_with (first | (go_at_call 29; refine HM.out.mono ?_; rintro e w1 ⟨rfl, hb1⟩))
    go_ret2
    exact ⟨Or.inl ⟨hmis, rfl⟩, hb1⟩
  | false =>
    rw [hmis] at HM
    have HV := hid hv
    have HF := hid hf
    clear hv hf
    go_enter Tryz.func14, Tryz.ntmps14
    go_wp2_with (first | (go_at_call 29; refine HM.out.mono ?_; rintro e w1 ⟨rfl, hb1⟩) | (go_at_call 31; refine (joined_any v d w1 (HV.out.kept hb1) hl htot).mono ?_; rintro e w2 ⟨u, ds, o, rfl, hso, hoj, hom, hb2⟩; have HSO := hid hso; have HOJ := hid hoj; have HOM := hid hom; clear hso hoj hom))
    have hfo := joined_fit HF.out HSO.out HOM.out htot
    have hbar := hasBare_any u o w2 HOJ.out.1.is hfo.1
    rw [HOM.out] at hbar
    have HBA := hid hbar
    have HFO := hid hfo
    clear hbar hfo
    have hbw : Below w.heap.size w w2 := hb1.trans (hb2.mono hb1.size)
    cases hbb : (joinS (ds.map Fx.fld)).any bareB with
    | true =>
      rw [hbb] at HBA
      go_wp2_with (first | (go_at_call 29; refine HBA.out.mono ?_; rintro e w3 ⟨rfl, hb3⟩))
      go_ret2
      exact ⟨Or.inr ⟨hmis, ds, HSO.out, Or.inl ⟨hbb, rfl⟩⟩, hbw.trans (hb3.mono hbw.size)⟩
    | false =>
      rw [hbb] at HBA
      cases hmm : mayB (joinS (ds.map Fx.fld)) with
      | false =>
        go_wp2_with (first | (go_at_call 29; refine HBA.out.mono ?_; rintro e w3 ⟨rfl, hb3⟩; have hmy := hid (may_any u o w3 (HOJ.out.1.is.kept hb3) HFO.out); rw [HOM.out, hmm] at hmy) | (go_at_call 13; refine hmy.out.mono ?_; rintro e w4 ⟨rfl, hg4⟩))
        go_ret2
        exact ⟨Or.inr ⟨hmis, ds, HSO.out, Or.inr (Or.inl ⟨hbb, hmm, rfl⟩)⟩, (hbw.trans (hb3.mono hbw.size)).trans (hg4.below.mono (hbw.trans (hb3.mono hbw.size)).size)⟩
      | true =>
        go_wp2_with (first | (go_at_call 29; refine HBA.out.mono ?_; rintro e w3 ⟨rfl, hb3⟩; have hmy := hid (may_any u o w3 (HOJ.out.1.is.kept hb3) HFO.out); rw [HOM.out, hmm] at hmy) | (go_at_call 13; refine hmy.out.mono ?_; rintro e w4 ⟨rfl, hg4⟩))
        go_ret2
        have hoj4 := (HOJ.out.on hb3).on hg4.below
        exact ⟨Or.inr ⟨hmis, ds, HSO.out, Or.inr (Or.inr ⟨hbb, hmm, u, o, rfl, ⟨⟨own_weak hoj4.1.1 hb1.size, fun x hx => own_weak (hoj4.1.2 x hx) hb1.size⟩, hoj4.2⟩, HOM.out⟩)⟩, (hbw.trans (hb3.mono hbw.size)).trans (hg4.below.mono (hbw.trans (hb3.mono hbw.size)).size)⟩

end Go.Proofs.YtelcongbnmfegabGreatDoor

/-
  The contract of Parse where a line has fewer than 20 words.
-/
namespace Go.Proofs.YtelcongbnmfegabGreatDoor
open Go.RowKit
attribute [local go_sem] Oper.semAt_some

/-- The fields that words say. -/
def fieldsW : List (List UInt8) → Option (List Fld)
  | [] => some []
  | l :: r => match wordO l with
    | none => none
    | some (n, t) => (fieldsW r).map ((⟨n.toArray⟩, [⟨t.toArray⟩]) :: ·)

theorem fieldsW_append (a b : List (List UInt8)) : fieldsW (a ++ b) = (fieldsW a).bind fun x => (fieldsW b).map (x ++ ·) := by
  induction a with
  | nil => simp [fieldsW]
  | cons l a ih =>
    simp only [List.cons_append, fieldsW]
    cases wordO l with
    | none => rfl
    | some o =>
      obtain ⟨n, t⟩ := o
      simp only [ih]
      cases fieldsW a with
      | none => rfl
      | some x => cases fieldsW b <;> simp

/-- What Parse holds between two rounds. -/
def ParseSt {M : Nat} (w : World) (N : Nat) (pre : List (Wd M)) (W : World) : Prop :=
  ∃ v d fs, W.heap[w.heap.size + 2]? = some (.cells #[v] 22 (0, 0)) ∧ OwnXs (N + 2) W v d ∧ fieldsW (plainW pre) = some fs ∧ d.map Fx.fld = fs ∧ d.length = pre.length ∧
    W.heap[w.heap.size]? = some (.cells #[.slice none 0 0] 22 (0, 0)) ∧ W.heap[w.heap.size + 1]? = some (.cells #[.int .i64 0] 26 (0, 0)) ∧ Below w.heap.size w W ∧ N + 2 ≤ W.heap.size ∧ w.heap.size + 6 ≤ N

def ParseStop {M : Nat} (w : World) (N : Nat) (c : Code) (pre : List (Wd M)) (W : World) : Prop :=
  c = .ret ∧ fieldsW (plainW pre) = none ∧ W.heap[w.heap.size]? = some (.cells #[.slice none 0 0] 22 (0, 0)) ∧ W.heap[w.heap.size + 1]? = some (.cells #[.int .i64 4] 26 (0, 0)) ∧ Below w.heap.size w W ∧ w.heap.size + 6 ≤ N

/-- What Norm answers, its rows at or behind N. -/
def NormAns (N : Nat) (d : List Fx) (e : Ending) (w' : World) : Prop :=
  ((d.map Fx.fld).any misB = true ∧ e = .returned (.tuple #[.slice none 0 0, .int .i64 2])) ∨
   ((d.map Fx.fld).any misB = false ∧ ∃ ds, SortOf d ds ∧
     (((joinS (ds.map Fx.fld)).any bareB = true ∧ e = .returned (.tuple #[.slice none 0 0, .int .i64 3])) ∨
      ((joinS (ds.map Fx.fld)).any bareB = false ∧ mayB (joinS (ds.map Fx.fld)) = false ∧ e = .returned (.tuple #[.slice none 0 0, .int .i64 5])) ∨
      ((joinS (ds.map Fx.fld)).any bareB = false ∧ mayB (joinS (ds.map Fx.fld)) = true ∧ ∃ u o, e = .returned (.tuple #[u, .int .i64 0]) ∧ OwnJ N w' u o ∧ o.map Fx.fld = joinS (ds.map Fx.fld))))

theorem NormPost.ans {w w' : World} {d : List Fx} {e : Ending} (h : NormPost w d e w') : NormAns w.heap.size d e w' := h.1

theorem OwnJ.far {N R : Nat} {w w' : World} {v : Value} {o : List Fx} (h : OwnJ N w v o) (hg : w.grownBy w' (some R)) (hR : R < N) : OwnJ N w' v o := ⟨h.1.far hg hR, h.2⟩
theorem OwnJ.weak {N N' : Nat} {w : World} {v : Value} {o : List Fx} (h : OwnJ N w v o) (hN : N' ≤ N) : OwnJ N' w v o := ⟨⟨own_weak h.1.1 hN, fun x hx => own_weak (h.1.2 x hx) hN⟩, h.2⟩

theorem NormAns.map {N N' : Nat} {d : List Fx} {e : Ending} {w w' : World} (h : NormAns N d e w) (f : ∀ u o, OwnJ N w u o → OwnJ N' w' u o) : NormAns N' d e w' := by
  rcases h with h | ⟨h1, ds, h2, h3⟩
  · exact Or.inl h
  · refine Or.inr ⟨h1, ds, h2, ?_⟩
    rcases h3 with h3 | h3 | ⟨h3, h4, u, o, h5, h6, h7⟩
    · exact Or.inl h3
    · exact Or.inr (Or.inl h3)
    · exact Or.inr (Or.inr ⟨h3, h4, u, o, h5, f _ _ h6, h7⟩)

theorem NormAns.shape {N : Nat} {d : List Fx} {e : Ending} {w : World} (h : NormAns N d e w) : ∃ p n c k, e = .returned (.tuple #[.slice p n c, .int .i64 k]) := by
  rcases h with ⟨_, h⟩ | ⟨_, ds, _, ⟨_, h⟩ | ⟨_, _, h⟩ | ⟨_, _, u, o, h, ho, _⟩⟩
  · exact ⟨_, _, _, _, h⟩
  · exact ⟨_, _, _, _, h⟩
  · exact ⟨_, _, _, _, h⟩
  · rcases ho.1.1.2 with ⟨rfl, _⟩ | ⟨g, cap, cur, rfl, _⟩
    · exact ⟨_, _, _, _, h⟩
    · exact ⟨_, _, _, _, h⟩

def ParsePost (w : World) (l : List UInt8) (e : Ending) (w' : World) : Prop :=
  ((l = [] ∧ e = .returned (.tuple #[.slice none 0 0, .int .i64 0])) ∨
   (l ≠ [] ∧ fieldsW (splitL l) = none ∧ e = .returned (.tuple #[.slice none 0 0, .int .i64 4])) ∨
   (l ≠ [] ∧ ∃ fs d, fieldsW (splitL l) = some fs ∧ d.map Fx.fld = fs ∧ NormAns w.heap.size d e w')) ∧ Below w.heap.size w w'

theorem splitL_len (l : List UInt8) : (splitL l).length ≤ l.length + 1 := by
  induction h : l.length using Nat.strongRecOn generalizing l with
  | _ k ih =>
    subst h
    rcases ix_cases l 32 with ⟨h, _⟩ | ⟨i, h, hi, _⟩
    · rw [splitL_no h]; simp
    · rw [splitL_yes h, List.length_cons]
      have := ih (l.drop (i + 1)).length (by simp; omega) _ rfl
      simp at this ⊢
      omega

theorem wordO_len {l n t : List UInt8} (h : wordO l = some (n, t)) : n.length ≤ l.length ∧ t.length ≤ l.length := by
  unfold wordO at h
  split at h
  · cases h
  · cases hr : readL (l.drop ((Lib.indexByte l 61).toNat + 1)) with
    | none => rw [hr] at h; cases h
    | some m =>
      rw [hr] at h
      simp only [Option.map_some, Option.some.injEq, Prod.mk.injEq] at h
      obtain ⟨rfl, rfl⟩ := h
      have := readL_len _ _ _ (Nat.le_refl _) hr
      simp at this ⊢
      omega

theorem fieldsW_len {B : Nat} (ls : List (List UInt8)) (hB : ∀ l ∈ ls, l.length ≤ B) : ∀ fs, fieldsW ls = some fs → fs.length = ls.length ∧ totF fs = ls.length ∧ ∀ f ∈ fs, f.1.size ≤ B ∧ f.2.length = 1 ∧ ∀ t ∈ f.2, t.size ≤ B := by
  induction ls with
  | nil => intro fs h; cases h; exact ⟨rfl, rfl, fun f hf => by simp at hf⟩
  | cons l ls ih =>
    intro fs h
    simp only [fieldsW] at h
    cases ho : wordO l with
    | none => rw [ho] at h; cases h
    | some o =>
      obtain ⟨n, t⟩ := o
      rw [ho] at h
      cases hr : fieldsW ls with
      | none => rw [hr] at h; cases h
      | some gs =>
        rw [hr] at h
        cases h
        obtain ⟨h1, h2, h3⟩ := ih (fun l' hl' => hB l' (by simp [hl'])) gs hr
        obtain ⟨hn, ht⟩ := wordO_len ho
        have hl := hB l (by simp)
        refine ⟨by simp [h1], ?_, fun f hf => ?_⟩
        · simp only [totF, List.map_cons, List.sum_cons, List.length_cons, List.length_nil] at h2 ⊢
          omega
        · rw [List.mem_cons] at hf
          rcases hf with rfl | hf
          · refine ⟨?_, rfl, fun u hu => ?_⟩
            · show (ByteArray.mk _).size ≤ B
              simp [ByteArray.size]; omega
            · simp at hu; subst hu; simp [ByteArray.size]; omega
          · exact h3 f hf

theorem one_facts {w : World} {B : Nat} {u : Value} {T : TypeId} (h : w.heap[B]? = some (.cells #[u] T (0, 0))) : w.cell? ⟨B, 0, none⟩ = some u ∧ w.frozen? ⟨B, 0, none⟩ = false :=
  ⟨by rw [Lib.cell_of_heap h]; rfl, Lib.frozen_of_heap h 0⟩

theorem keeps_below {B : Nat} {W W' : World} (h : Below W.heap.size W W') : KeepsFrom B W W' :=
  ⟨h.size, fun k _ _ hk _ => (h.block k (Array.getElem?_eq_some_iff.1 hk).1).trans hk⟩

theorem row_cells {w : World} {base n k : Nat} {e : TypeId} {v : Value} {xs : List Value} {j : Nat} {o : Obj} (h : w.ownsRow base e n v k xs) (ej : v.ownBlock = some j) (hj : w.heap[j]? = some o) : o.isCells = true := by
  rcases h.2 with ⟨rfl, _⟩ | ⟨g, cap, cur, rfl, _, hgb, _⟩
  · simp [Value.ownBlock] at ej
  · obtain rfl : g = j := by simpa [Value.ownBlock] using ej
    rw [hgb] at hj; cases hj; rfl

end Go.Proofs.YtelcongbnmfegabGreatDoor

/-
  The order of texts, byte by byte.
-/
namespace Go.Proofs.YtelcongbnmfegabGreatDoor
open Go.RowKit Go.Lib

def ltB (a b : ByteArray) : Bool := decide (Lib.compareBytes a.data.toList b.data.toList < 0)

theorem ba_eq {a b : ByteArray} (h : a.data.toList = b.data.toList) : a = b := by
  obtain ⟨⟨a⟩⟩ := a
  obtain ⟨⟨b⟩⟩ := b
  cases h
  rfl

theorem ltB_anti {a b : ByteArray} (h : ltB a b = false) (k : ltB b a = false) : a = b := by
  unfold ltB at *
  rw [decide_eq_false_iff_not] at *
  refine ba_eq ((cb_zero _ _).1 ?_)
  have := cb_neg a.data.toList b.data.toList
  omega

theorem ltB_irrefl (a : ByteArray) : ltB a a = false := by
  unfold ltB; rw [cb_self]; rfl

theorem ltB_asymm {a b : ByteArray} (h : ltB a b = true) : ltB b a = false := by
  unfold ltB at *
  rw [decide_eq_true_iff] at h
  rw [decide_eq_false_iff_not]
  have := cb_neg a.data.toList b.data.toList
  omega

theorem ltB_trans {a b c : ByteArray} (h : ltB a b = true) (k : ltB b c = true) : ltB a c = true := by
  unfold ltB at *
  rw [decide_eq_true_iff] at *
  exact cb_lt_trans _ _ _ h k

theorem ltB_cases (a b : ByteArray) : ltB a b = true ∨ a = b ∨ ltB b a = true := by
  cases h : ltB a b with
  | true => exact Or.inl rfl
  | false =>
    cases k : ltB b a with
    | true => exact Or.inr (Or.inr rfl)
    | false => exact Or.inr (Or.inl (ltB_anti h k))

/-- not b < a, b < c: a < c. -/
theorem ltB_le_lt {a b c : ByteArray} (h : ltB b a = false) (k : ltB b c = true) : ltB a c = true := by
  rcases ltB_cases a b with h1 | rfl | h1
  · exact ltB_trans h1 k
  · exact k
  · rw [h] at h1; cases h1

theorem sless_of {a b : ByteArray} {c : Bool} (h : ltB a b = c) : Op.bytesLess a.toList b.toList = c := by
  rw [← h]
  unfold ltB
  rw [Lib.toList_data, Lib.toList_data, cb_less]

theorem seq_false {a b : ByteArray} (h : a ≠ b) : (a.toList == b.toList) = false := by
  rw [Lib.toList_data, Lib.toList_data, beq_eq_false_iff_ne]
  exact fun e => h (ba_eq e)
theorem seq_true {a b : ByteArray} (h : a = b) : (a.toList == b.toList) = true := by rw [h]; simp

theorem sempty_of {a : ByteArray} (h : a.size = 0) : a.toList.isEmpty = true := by
  rw [Lib.toList_data]
  have : a.data.toList = [] := List.length_eq_zero_iff.1 (by simpa using h)
  rw [this]; rfl
theorem sfull_of {a : ByteArray} (h : a.size ≠ 0) : a.toList.isEmpty = false := by
  rw [Lib.toList_data]
  cases e : a.data.toList with
  | nil => exact absurd (by simpa using congrArg List.length e) h
  | cons _ _ => rfl

end Go.Proofs.YtelcongbnmfegabGreatDoor

/-
  A list that is in order, and stable, is one: the fields as a stable sort leaves them.
-/
namespace Go.Proofs.YtelcongbnmfegabGreatDoor
open Go.RowKit Go.Sort Go.Lib

def InOrder (l : List Fld) : Prop := l.Pairwise fun x y => ltB y.1 x.1 = false

theorem order_unique : ∀ (a b : List Fld), InOrder a → InOrder b → (∀ c, a.filter (fun x => decide (x.1 = c)) = b.filter fun x => decide (x.1 = c)) → a = b
  | [], [], _, _, _ => rfl
  | [], y :: b, _, _, h => by have := h y.1; simp at this
  | x :: a, [], _, _, h => by have := h x.1; simp at this
  | x :: a, y :: b, ha, hb, h => by
    have ha' := List.pairwise_cons.1 ha
    have hb' := List.pairwise_cons.1 hb
    have hn : x.1 = y.1 := by
      have hx : x ∈ (y :: b).filter (fun z => decide (z.1 = x.1)) := by rw [← h]; simp
      have hy : y ∈ (x :: a).filter (fun z => decide (z.1 = y.1)) := by rw [h]; simp
      rw [List.mem_filter] at hx hy
      have h1 : ltB x.1 y.1 = false := by
        rcases List.mem_cons.1 hx.1 with e | e
        · rw [e]; exact ltB_irrefl _
        · exact hb'.1 x e
      have h2 : ltB y.1 x.1 = false := by
        rcases List.mem_cons.1 hy.1 with e | e
        · rw [e]; exact ltB_irrefl _
        · exact ha'.1 y e
      exact ltB_anti h1 h2
    have hxy : x = y := by
      have := h x.1
      rw [List.filter_cons_of_pos (by simp), List.filter_cons_of_pos (by simp [hn])] at this
      exact (List.cons.inj this).1
    subst hxy
    congr 1
    refine order_unique a b ha'.2 hb'.2 fun c => ?_
    have := h c
    by_cases e : x.1 = c
    · rw [List.filter_cons_of_pos (by simp [e]), List.filter_cons_of_pos (by simp [e])] at this
      exact (List.cons.inj this).2
    · rwa [List.filter_cons_of_neg (by simp [e]), List.filter_cons_of_neg (by simp [e])] at this

/-- f behind all that are not above it. -/
def insF (f : Fld) : List Fld → List Fld
  | [] => [f]
  | g :: l => if ltB f.1 g.1 then f :: g :: l else g :: insF f l

def sortS (l : List Fld) : List Fld := l.foldl (fun acc f => insF f acc) []

theorem mem_insF (f x : Fld) (l : List Fld) : x ∈ insF f l ↔ x = f ∨ x ∈ l := by
  induction l with
  | nil => simp [insF]
  | cons g l ih =>
    unfold insF
    split
    · simp
    · simp [ih, or_left_comm]

theorem insF_order (f : Fld) (l : List Fld) (h : InOrder l) : InOrder (insF f l) := by
  induction l with
  | nil => simp [insF, InOrder]
  | cons g l ih =>
    have h' := List.pairwise_cons.1 h
    unfold insF
    split
    · rename_i hlt
      refine List.pairwise_cons.2 ⟨fun x hx => ?_, h⟩
      rcases List.mem_cons.1 hx with rfl | hx
      · exact ltB_asymm hlt
      · have h1 := h'.1 x hx
        refine ltB_asymm ?_
        rcases ltB_cases g.1 x.1 with h2 | h2 | h2
        · exact ltB_trans hlt h2
        · rw [← h2]; exact hlt
        · rw [h1] at h2; cases h2
    · rename_i hlt
      refine List.pairwise_cons.2 ⟨fun x hx => ?_, ih h'.2⟩
      rcases (mem_insF f x l).1 hx with rfl | hx
      · simpa using hlt
      · exact h'.1 x hx

theorem insF_filter (f : Fld) (l : List Fld) (h : InOrder l) (c : ByteArray) : (insF f l).filter (fun x => decide (x.1 = c)) = (l ++ [f]).filter fun x => decide (x.1 = c) := by
  induction l with
  | nil => rfl
  | cons g l ih =>
    have h' := List.pairwise_cons.1 h
    unfold insF
    split
    · rename_i hlt
      by_cases e : f.1 = c
      · have hno : (g :: l).filter (fun x => decide (x.1 = c)) = [] := by
          rw [List.filter_eq_nil_iff]
          intro x hx hxc
          have hxc : x.1 = c := by simpa using hxc
          have hlx : ltB f.1 x.1 = true := by
            rcases List.mem_cons.1 hx with rfl | hx
            · exact hlt
            · have h1 := h'.1 x hx
              rcases ltB_cases g.1 x.1 with h2 | h2 | h2
              · exact ltB_trans hlt h2
              · rw [← h2]; exact hlt
              · rw [h1] at h2; cases h2
          rw [hxc, ← e, ltB_irrefl] at hlx
          cases hlx
        rw [List.filter_append, hno, List.filter_cons_of_pos (by simp [e]), hno, List.filter_cons_of_pos (by simp [e])]
        rfl
      · rw [List.filter_cons_of_neg (by simp [e]), List.filter_append, List.filter_cons_of_neg (p := fun x => decide (x.1 = c)) (a := f) (by simp [e])]
        simp
    · rw [List.cons_append, List.filter_cons, List.filter_cons, ih h'.2]

theorem sortS_spec (l : List Fld) : InOrder (sortS l) ∧ ∀ c, (sortS l).filter (fun x => decide (x.1 = c)) = l.filter fun x => decide (x.1 = c) := by
  have : ∀ (l acc : List Fld), InOrder acc → InOrder (l.foldl (fun acc f => insF f acc) acc) ∧ ∀ c, (l.foldl (fun acc f => insF f acc) acc).filter (fun x => decide (x.1 = c)) = (acc ++ l).filter fun x => decide (x.1 = c) := by
    intro l
    induction l with
    | nil => intro acc h; exact ⟨h, fun c => by simp⟩
    | cons f l ih =>
      intro acc h
      obtain ⟨h1, h2⟩ := ih (insF f acc) (insF_order f acc h)
      refine ⟨h1, fun c => ?_⟩
      rw [List.foldl_cons, h2 c, List.filter_append, insF_filter f acc h c, ← List.filter_append]
      simp
  have h := this l [] List.Pairwise.nil
  exact ⟨h.1, fun c => by simpa [sortS] using h.2 c⟩

theorem sortOf_flds {d ds : List Fx} (h : SortOf d ds) : ds.map Fx.fld = sortS (d.map Fx.fld) := by
  obtain ⟨h1, h2⟩ := sortS_spec (d.map Fx.fld)
  refine order_unique _ _ ?_ h1 fun c => ?_
  · refine List.Pairwise.map _ (fun x y hxy => ?_) h.2.1
    exact hxy
  · rw [h2 c, List.filter_map, List.filter_map]
    exact congrArg (List.map Fx.fld) (h.2.2 c)

/-- What Norm answers, by the fields alone. -/
def normF (fs : List Fld) : List Fld := joinS (sortS fs)

theorem NormAns.plain {N : Nat} {d : List Fx} {e : Ending} {w' : World} (h : NormAns N d e w') :
    ((d.map Fx.fld).any misB = true ∧ e = .returned (.tuple #[.slice none 0 0, .int .i64 2])) ∨
    ((d.map Fx.fld).any misB = false ∧
     (((normF (d.map Fx.fld)).any bareB = true ∧ e = .returned (.tuple #[.slice none 0 0, .int .i64 3])) ∨
      ((normF (d.map Fx.fld)).any bareB = false ∧ mayB (normF (d.map Fx.fld)) = false ∧ e = .returned (.tuple #[.slice none 0 0, .int .i64 5])) ∨
      ((normF (d.map Fx.fld)).any bareB = false ∧ mayB (normF (d.map Fx.fld)) = true ∧ ∃ u o, e = .returned (.tuple #[u, .int .i64 0]) ∧ OwnJ N w' u o ∧ o.map Fx.fld = normF (d.map Fx.fld)))) := by
  rcases h with h | ⟨h1, ds, h2, h3⟩
  · exact Or.inl h
  · have e := sortOf_flds h2
    rw [e] at h3
    exact Or.inr ⟨h1, h3⟩

end Go.Proofs.YtelcongbnmfegabGreatDoor

/-
  The contract of withText: a text behind a row of bytes.
-/
namespace Go.Proofs.YtelcongbnmfegabGreatDoor
open Go.RowKit

/-- v owns the bytes bs, in a row at or behind n0. -/
def OwnB (n0 : Nat) (w : World) (v : Value) (bs : List UInt8) : Prop := w.ownsRow n0 5 1 v bs.length (Lib.byteCells bs)

/-- Whatever is no row of bytes lies as it lay. -/
def KeptB (w w' : World) : Prop := ∀ (k : Nat) (o : Obj), w.heap[k]? = some o → (¬ ∃ cs fr, o = .cells cs 5 fr) → w'.heap[k]? = some o

theorem KeptB.refl (w : World) : KeptB w w := fun _ _ h _ => h
theorem KeptB.trans {a b c : World} (h : KeptB a b) (k : KeptB b c) : KeptB a c := fun i o hi hn => k i o (h i o hi hn) hn
theorem KeptB.alloc (w : World) (o : Obj) : KeptB w (w.alloc o) := fun i _ hi _ => (Below.heap_alloc w o i (Array.getElem?_eq_some_iff.1 hi).1).trans hi
theorem KeptB.grown {w w' : World} {n0 : Nat} {v : Value} {n : Nat} {xs : List Value} (hown : w.ownsRow n0 5 1 v n xs) (hg : w.grownBy w' v.ownBlock) : KeptB w w' := fun i o hi hn => by
  refine (hg.block i (Array.getElem?_eq_some_iff.1 hi).1 fun e => ?_).trans hi
  rcases hown.2 with ⟨hv, _⟩ | ⟨g, cap, cur, hv, _, hgb, _⟩
  · rw [hv] at e; cases e
  · rw [hv] at e
    have : i = g := by simpa [Value.ownBlock] using e
    subst this
    rw [hgb] at hi
    exact hn ⟨cur, (0, 0), by cases hi; rfl⟩
theorem KeptB.below {w w' : World} (h : Below w.heap.size w w') : KeptB w w' := fun i _ hi _ => (h.block i (Array.getElem?_eq_some_iff.1 hi).1).trans hi

theorem OwnB.on {n0 : Nat} {w w' : World} {v : Value} {bs : List UInt8} (h : OwnB n0 w v bs) (hb : Below w.heap.size w w') : OwnB n0 w' v bs := own_on h hb

end Go.Proofs.YtelcongbnmfegabGreatDoor

/-
  The contracts of Encode and Size.
-/
namespace Go.Proofs.YtelcongbnmfegabGreatDoor
open Go.RowKit

def encT (t : ByteArray) : List UInt8 := UInt8.ofNat t.size :: t.data.toList
def encF (f : Fld) : List UInt8 := encT f.1 ++ [UInt8.ofNat f.2.length] ++ f.2.flatMap encT
def encL (fs : List Fld) : List UInt8 := UInt8.ofNat fs.length :: fs.flatMap encF

theorem encT_len (t : ByteArray) : (encT t).length = t.size + 1 := by simp [encT]

theorem flat_len {α : Type} (f : α → List UInt8) (c : Nat) (l : List α) (h : ∀ x ∈ l, (f x).length ≤ c) : (l.flatMap f).length ≤ l.length * c := by
  induction l with
  | nil => simp
  | cons x l ih =>
    rw [List.flatMap_cons, List.length_append, List.length_cons, Nat.add_mul]
    have h1 := h x (by simp)
    have h2 := ih fun y hy => h y (by simp [hy])
    omega

theorem fieldB_len {l : List UInt8} (h : fieldB l = true) : l.length ≤ 32 := by
  unfold fieldB spell at h
  cases l with
  | nil => simp
  | cons c r => simp at h; simp; omega

theorem fits_parts {f : Fld} (h : fitsB f = true) : f.1.size ≤ 32 ∧ 0 < f.2.length ∧ f.2.length ≤ 8 ∧ (∀ t ∈ f.2, t.size ≤ 128) ∧ fieldB f.1.data.toList = true := by
  unfold fitsB at h
  simp only [Bool.and_eq_true, Bool.not_eq_true', decide_eq_true_eq] at h
  obtain ⟨⟨⟨h1, h2⟩, h3⟩, h4⟩ := h
  refine ⟨by simpa using fieldB_len h1, ?_, h3, fun t ht => ?_, h1⟩
  · cases hf : f.2 with
    | nil => rw [hf] at h2; simp at h2
    | cons _ _ => simp
  · rw [List.any_eq_false] at h4
    have := h4 t ht
    unfold longB at this
    simpa using this

theorem fits_texts {f : Fld} (h : fitsB f = true) (j : Nat) : ((f.2.take j).flatMap encT).length ≤ 1032 := by
  obtain ⟨_, _, h3, h4, _⟩ := fits_parts h
  have := flat_len encT 129 (f.2.take j) (fun t ht => by rw [encT_len]; have := h4 t (List.mem_of_mem_take ht); omega)
  rw [List.length_take] at this
  have h5 : min j f.2.length * 129 ≤ 8 * 129 := Nat.mul_le_mul_right _ (by omega)
  omega

theorem encF_len {f : Fld} (h : fitsB f = true) : (encF f).length ≤ 1066 := by
  have h1 := (fits_parts h).1
  have h2 := fits_texts h f.2.length
  rw [List.take_length] at h2
  unfold encF
  rw [List.length_append, List.length_append, encT_len]
  simp only [List.length_cons, List.length_nil]
  omega

theorem may_parts {fs : List Fld} (h : mayB fs = true) : fs.length ≤ 16 ∧ ∀ i, i < fs.length → stepOk fs i = true := by
  unfold mayB at h
  rw [Bool.and_eq_true, decide_eq_true_eq, List.all_eq_true] at h
  exact ⟨h.1, fun i hi => h.2 i (List.mem_range.2 hi)⟩

theorem may_fits {fs : List Fld} (h : mayB fs = true) : ∀ f ∈ fs, fitsB f = true := by
  intro f hf
  obtain ⟨i, hi, rfl⟩ := List.mem_iff_getElem.1 hf
  have := (may_parts h).2 i hi
  unfold stepOk at this
  rw [Bool.and_eq_true, List.getD_eq_getElem?_getD, List.getElem?_eq_getElem hi] at this
  exact this.1

theorem enc_ahead {fs : List Fld} (h : mayB fs = true) (i : Nat) : ((fs.take i).flatMap encF).length ≤ 17056 := by
  have := flat_len encF 1066 (fs.take i) (fun f hf => encF_len (may_fits h f (List.mem_of_mem_take hf)))
  rw [List.length_take] at this
  have h5 : min i fs.length * 1066 ≤ 16 * 1066 := Nat.mul_le_mul_right _ (by have := (may_parts h).1; omega)
  omega

/-- A field's box is no row of bytes. -/
theorem box_kept {w w' : World} {F : Nat} {cs : Array Value} {fr : Nat × Nat} (hk : KeptB w w') (h : w.heap[F]? = some (.cells cs 35 fr)) : w'.heap[F]? = some (.cells cs 35 fr) :=
  hk F _ h (by rintro ⟨cs', fr', e⟩; injection e with _ e; exact absurd e (by decide))

theorem box_cells {w w' : World} {u v : Value} (hk : KeptB (w.alloc (.cells #[u, v] 35)) w') :
    w'.cell? ⟨w.heap.size, 0, none⟩ = some u ∧ w'.cell? ⟨w.heap.size, 1, none⟩ = some v := by
  have hbx := box_kept hk (heap_alloc_new w _)
  exact ⟨by rw [Lib.cell_of_heap hbx]; rfl, by rw [Lib.cell_of_heap hbx]; rfl⟩

def encV (w' : World) (n0 : Nat) (fs : List Fld) (e : Ending) : Prop :=
  if mayB fs = true then ∃ v, e = .returned (.tuple #[v, .int .i64 0]) ∧ OwnB n0 w' v (encL fs) else e = .returned (.tuple #[.slice none 0 0, .int .i64 3])

end Go.Proofs.YtelcongbnmfegabGreatDoor

/-
  What joins of fields in order are: each name once, in order, with all its texts.
-/
namespace Go.Proofs.YtelcongbnmfegabGreatDoor
open Go.RowKit Go.Sort Go.Lib

/-- All texts of a name, one after the other. -/
def txtOf (fs : List Fld) (c : ByteArray) : List ByteArray := (fs.filter fun x => decide (x.1 = c)).flatMap (·.2)

def Rising (l : List Fld) : Prop := l.Pairwise fun x y => ltB x.1 y.1 = true

theorem txtOf_snoc (l : List Fld) (f : Fld) (c : ByteArray) : txtOf (l ++ [f]) c = txtOf l c ++ if f.1 = c then f.2 else [] := by
  unfold txtOf
  rw [List.filter_append, List.flatMap_append]
  by_cases e : f.1 = c
  · rw [if_pos e, List.filter_cons_of_pos (by simp [e])]; simp
  · rw [if_neg e, List.filter_cons_of_neg (by simp [e])]; simp

theorem txtOf_none {l : List Fld} {c : ByteArray} (h : ∀ f ∈ l, f.1 ≠ c) : txtOf l c = [] := by
  unfold txtOf
  rw [List.filter_eq_nil_iff.2 (fun x hx => by simpa using h x hx)]
  rfl

structure Groups (l o : List Fld) : Prop where
  rising : Rising o
  names : ∀ c, (∃ f ∈ o, f.1 = c) ↔ ∃ f ∈ l, f.1 = c
  texts : ∀ f ∈ o, f.2 = txtOf l f.1

theorem ltB_ne {a b : ByteArray} (h : ltB a b = true) : a ≠ b := by
  rintro rfl
  rw [ltB_irrefl] at h
  cases h

theorem ltB_lt_le {a b c : ByteArray} (h : ltB a b = true) (k : ltB c b = false) : ltB a c = true := by
  rcases ltB_cases b c with h1 | rfl | h1
  · exact ltB_trans h h1
  · exact h
  · rw [k] at h1; cases h1

theorem Groups.step {l o : List Fld} {f : Fld} (h : Groups l o) (hf : ∀ x ∈ l, ltB f.1 x.1 = false) : Groups (l ++ [f]) (joinStep o f) := by
  obtain ⟨h1, h2, h3⟩ := h
  have hfo : ∀ x ∈ o, ltB f.1 x.1 = false := fun x hx => by
    obtain ⟨y, hy, e⟩ := (h2 x.1).1 ⟨x, hx, rfl⟩
    rw [← e]; exact hf y hy
  rcases List.eq_nil_or_concat o with rfl | ⟨o', g, rfl⟩
  · have hl : l = [] := by
      cases l with
      | nil => rfl
      | cons y l =>
        obtain ⟨z, hz, _⟩ := (h2 y.1).2 ⟨y, by simp, rfl⟩
        simp at hz
    subst hl
    rw [joinStep_nil]
    refine ⟨List.pairwise_singleton _ _, fun c => by simp, fun x hx => ?_⟩
    rw [List.mem_singleton] at hx
    subst hx
    simp [txtOf]
  · rw [List.concat_eq_append] at *
    have hr := List.pairwise_append.1 h1
    have ho' : ∀ x ∈ o', ltB x.1 g.1 = true := fun x hx => hr.2.2 x hx g (by simp)
    have hgf := hfo g (by simp)
    by_cases e : g.1 = f.1
    · rw [joinStep_same _ _ _ e]
      refine ⟨?_, fun c => ?_, fun x hx => ?_⟩
      · refine List.pairwise_append.2 ⟨hr.1, List.pairwise_singleton _ _, fun a ha b hb => ?_⟩
        rw [List.mem_singleton] at hb
        subst hb
        exact ho' a ha
      · have := h2 c
        constructor
        · rintro ⟨x, hx, rfl⟩
          rw [List.mem_append, List.mem_singleton] at hx
          rcases hx with hx | rfl
          · obtain ⟨y, hy, ey⟩ := (h2 x.1).1 ⟨x, by simp [hx], rfl⟩
            exact ⟨y, by simp [hy], ey⟩
          · exact ⟨f, by simp, e.symm⟩
        · rintro ⟨y, hy, rfl⟩
          rw [List.mem_append, List.mem_singleton] at hy
          rcases hy with hy | rfl
          · obtain ⟨x, hx, ex⟩ := this.2 ⟨y, hy, rfl⟩
            rw [List.mem_append, List.mem_singleton] at hx
            rcases hx with hx | rfl
            · exact ⟨x, by simp [hx], ex⟩
            · exact ⟨_, List.mem_append_right _ (List.mem_singleton.2 rfl), ex⟩
          · exact ⟨_, List.mem_append_right _ (List.mem_singleton.2 rfl), e⟩
      · rw [List.mem_append, List.mem_singleton] at hx
        rcases hx with hx | rfl
        · rw [txtOf_snoc, if_neg (fun k => ltB_ne (ho' x hx) (k.symm.trans e.symm)), List.append_nil]
          exact h3 x (by simp [hx])
        · show g.2 ++ f.2 = txtOf (l ++ [f]) g.1
          rw [txtOf_snoc, if_pos e.symm, ← h3 g (by simp)]
    · rw [joinStep_other _ _ _ e]
      have hgf' : ltB g.1 f.1 = true := by
        rcases ltB_cases g.1 f.1 with k | k | k
        · exact k
        · exact absurd k e
        · rw [hgf] at k; cases k
      have hlt : ∀ x ∈ o' ++ [g], ltB x.1 f.1 = true := fun x hx => by
        rw [List.mem_append, List.mem_singleton] at hx
        rcases hx with hx | rfl
        · exact ltB_trans (ho' x hx) hgf'
        · exact hgf'
      refine ⟨?_, fun c => ?_, fun x hx => ?_⟩
      · refine List.pairwise_append.2 ⟨h1, List.pairwise_singleton _ _, fun a ha b hb => ?_⟩
        rw [List.mem_singleton] at hb
        subst hb
        exact hlt a ha
      · constructor
        · rintro ⟨x, hx, rfl⟩
          rw [List.mem_append, List.mem_singleton] at hx
          rcases hx with hx | rfl
          · obtain ⟨y, hy, ey⟩ := (h2 x.1).1 ⟨x, hx, rfl⟩
            exact ⟨y, List.mem_append_left _ hy, ey⟩
          · exact ⟨x, by simp, rfl⟩
        · rintro ⟨y, hy, rfl⟩
          rw [List.mem_append, List.mem_singleton] at hy
          rcases hy with hy | rfl
          · obtain ⟨x, hx, ex⟩ := (h2 y.1).2 ⟨y, hy, rfl⟩
            exact ⟨x, List.mem_append_left _ hx, ex⟩
          · exact ⟨y, by simp, rfl⟩
      · rw [List.mem_append, List.mem_singleton] at hx
        rcases hx with hx | rfl
        · rw [txtOf_snoc, if_neg (fun k => ltB_ne (hlt x hx) k.symm), List.append_nil]
          exact h3 x hx
        · rw [txtOf_snoc, if_pos rfl, txtOf_none, List.nil_append]
          intro y hy k
          obtain ⟨z, hz, ez⟩ := (h2 y.1).2 ⟨y, hy, rfl⟩
          exact ltB_ne (hlt z hz) (ez.trans k)

theorem joinS_groups (l : List Fld) (h : InOrder l) : Groups l (joinS l) := by
  have : ∀ k, k ≤ l.length → Groups (l.take k) (joinS (l.take k)) := by
    intro k
    induction k with
    | zero => intro _; exact ⟨List.Pairwise.nil, fun c => by simp [joinS], fun f hf => by simp [joinS] at hf⟩
    | succ k ih =>
      intro hk
      rw [List.take_succ_eq_append_getElem hk, joinS_snoc]
      refine (ih (by omega)).step fun x hx => ?_
      have h1 : InOrder (l.take (k + 1)) := h.sublist (List.take_sublist _ _)
      rw [List.take_succ_eq_append_getElem hk] at h1
      exact (List.pairwise_append.1 h1).2.2 x hx _ (by simp)
  have := this l.length (Nat.le_refl _)
  rwa [List.take_length] at this

theorem normF_groups (fs : List Fld) : Groups fs (normF fs) := by
  obtain ⟨h1, h2⟩ := sortS_spec fs
  obtain ⟨g1, g2, g3⟩ := joinS_groups _ h1
  have hm : ∀ c, (∃ f ∈ sortS fs, f.1 = c) ↔ ∃ f ∈ fs, f.1 = c := fun c => by
    have e := h2 c
    constructor
    · rintro ⟨f, hf, rfl⟩
      have : f ∈ fs.filter (fun x => decide (x.1 = f.1)) := by rw [← e]; exact List.mem_filter.2 ⟨hf, by simp⟩
      exact ⟨f, (List.mem_filter.1 this).1, rfl⟩
    · rintro ⟨f, hf, rfl⟩
      have : f ∈ (sortS fs).filter (fun x => decide (x.1 = f.1)) := by rw [e]; exact List.mem_filter.2 ⟨hf, by simp⟩
      exact ⟨f, (List.mem_filter.1 this).1, rfl⟩
  refine ⟨g1, fun c => (g2 c).trans (hm c), fun f hf => ?_⟩
  rw [g3 f hf]
  unfold txtOf
  rw [h2]

/-- Groups are one. -/
theorem groups_unique {l o p : List Fld} (h : Groups l o) (k : Groups l p) : o = p := by
  refine order_unique o p (h.rising.imp fun hxy => ltB_asymm hxy) (k.rising.imp fun hxy => ltB_asymm hxy) fun c => ?_
  have one : ∀ {q : List Fld}, Groups l q → q.filter (fun x => decide (x.1 = c)) = if ∃ f ∈ l, f.1 = c then [(c, txtOf l c)] else [] := by
    intro q hq
    split
    · rename_i hex
      obtain ⟨f, hf, rfl⟩ := (hq.names c).2 hex
      obtain ⟨a, b, rfl⟩ := List.append_of_mem hf
      have hr := List.pairwise_append.1 hq.rising
      have hr2 := List.pairwise_cons.1 hr.2.1
      have ha : a.filter (fun x => decide (x.1 = f.1)) = [] := List.filter_eq_nil_iff.2 fun x hx e => ltB_ne (hr.2.2 x hx f (by simp)) (by simpa using e)
      have hb : b.filter (fun x => decide (x.1 = f.1)) = [] := List.filter_eq_nil_iff.2 fun x hx e => ltB_ne (hr2.1 x hx) (Eq.symm (of_decide_eq_true e))
      rw [List.filter_append, ha, List.filter_cons_of_pos (by simp), hb, List.nil_append, ← hq.texts f (by simp)]
    · rename_i hex
      refine List.filter_eq_nil_iff.2 fun x hx e => hex ((hq.names c).1 ⟨x, hx, by simpa using e⟩)
  rw [one h, one k]

/-- The least name above the last one, of these; none: the empty one. -/
def scanStep (last nx : ByteArray) (f : Fld) : ByteArray := if ltB last f.1 && (decide (nx.size = 0) || ltB f.1 nx) then f.1 else nx
def scanN (last : ByteArray) (fs : List Fld) : ByteArray := fs.foldl (scanStep last) ⟨#[]⟩

theorem scanN_snoc (last : ByteArray) (l : List Fld) (f : Fld) : scanN last (l ++ [f]) = scanStep last (scanN last l) f := by simp [scanN]

theorem scan_spec (last : ByteArray) (fs : List Fld) (hne : ∀ f ∈ fs, f.1.size ≠ 0) :
    (scanN last fs = ⟨#[]⟩ ∧ ∀ f ∈ fs, ltB last f.1 = false) ∨ ((scanN last fs).size ≠ 0 ∧ (∃ f ∈ fs, f.1 = scanN last fs) ∧ ltB last (scanN last fs) = true ∧ ∀ g ∈ fs, ltB last g.1 = true → ltB g.1 (scanN last fs) = false) := by
  have : ∀ k, k ≤ fs.length → (scanN last (fs.take k) = ⟨#[]⟩ ∧ ∀ f ∈ fs.take k, ltB last f.1 = false) ∨ ((scanN last (fs.take k)).size ≠ 0 ∧ (∃ f ∈ fs.take k, f.1 = scanN last (fs.take k)) ∧ ltB last (scanN last (fs.take k)) = true ∧ ∀ g ∈ fs.take k, ltB last g.1 = true → ltB g.1 (scanN last (fs.take k)) = false) := by
    intro k
    induction k with
    | zero => intro _; left; exact ⟨rfl, fun f hf => by simp at hf⟩
    | succ k ih =>
      intro hk
      have ih := ih (by omega)
      rw [List.take_succ_eq_append_getElem hk, scanN_snoc]
      have hnf : (fs[k]).1.size ≠ 0 := hne _ (List.getElem_mem hk)
      generalize fs[k] = f at hnf ⊢
      generalize fs.take k = l at ih ⊢
      generalize scanN last l = r at ih ⊢
      unfold scanStep
      cases c1 : ltB last f.1 with
      | false =>
        rw [Bool.false_and, if_neg (by simp)]
        rcases ih with ⟨i1, i2⟩ | ⟨i1, ⟨x, hx, ex⟩, i3, i4⟩
        · left
          refine ⟨i1, fun x hx => ?_⟩
          rw [List.mem_append, List.mem_singleton] at hx
          rcases hx with hx | rfl
          · exact i2 x hx
          · exact c1
        · right
          refine ⟨i1, ⟨x, by simp [hx], ex⟩, i3, fun g hg hl => ?_⟩
          rw [List.mem_append, List.mem_singleton] at hg
          rcases hg with hg | rfl
          · exact i4 g hg hl
          · rw [c1] at hl; cases hl
      | true =>
        rcases ih with ⟨i1, i2⟩ | ⟨i1, ⟨x, hx, ex⟩, i3, i4⟩
        · have : decide (r.size = 0) = true := by rw [i1]; rfl
          rw [this, if_pos (by simp)]
          right
          refine ⟨hnf, ⟨f, by simp, rfl⟩, c1, fun g hg hl => ?_⟩
          rw [List.mem_append, List.mem_singleton] at hg
          rcases hg with hg | rfl
          · rw [i2 g hg] at hl; cases hl
          · exact ltB_irrefl _
        · rw [decide_eq_false i1, Bool.false_or, Bool.true_and]
          right
          cases c2 : ltB f.1 r with
          | true =>
            rw [if_pos rfl]
            refine ⟨hnf, ⟨f, by simp, rfl⟩, c1, fun g hg hl => ?_⟩
            rw [List.mem_append, List.mem_singleton] at hg
            rcases hg with hg | rfl
            · have := i4 g hg hl
              cases c3 : ltB g.1 f.1 with
              | false => rfl
              | true => rw [ltB_trans c3 c2] at this; cases this
            · exact ltB_irrefl _
          | false =>
            rw [if_neg (by simp)]
            refine ⟨i1, ⟨x, by simp [hx], ex⟩, i3, fun g hg hl => ?_⟩
            rw [List.mem_append, List.mem_singleton] at hg
            rcases hg with hg | rfl
            · exact i4 g hg hl
            · exact c2
  have h := this fs.length (Nat.le_refl _)
  rwa [List.take_length] at h

theorem ltB_nil {c : ByteArray} (h : c.size ≠ 0) : ltB ⟨#[]⟩ c = true := by
  rcases ltB_cases ⟨#[]⟩ c with k | k | k
  · exact k
  · rw [← k] at h; exact absurd rfl h
  · unfold ltB at k
    rw [decide_eq_true_iff] at k
    exfalso
    have e : (ByteArray.mk #[]).data.toList = [] := rfl
    rw [e] at k
    cases hc : c.data.toList with
    | nil => rw [hc] at k; simp [Lib.compareBytes] at k
    | cons x l => rw [hc] at k; simp [Lib.compareBytes] at k

/-- The name of the group behind the first k of them. -/
def lastOf (o : List Fld) (k : Nat) : ByteArray := if k = 0 then ⟨#[]⟩ else (o.getD (k - 1) default).1

theorem Rising.get {o : List Fld} (h : Rising o) {i j : Nat} (hij : i < j) (hj : j < o.length) : ltB (o[i]'(by omega)).1 (o[j]).1 = true := by
  exact List.pairwise_iff_getElem.1 h i j (by omega) hj hij

theorem scan_next {fs o : List Fld} (h : Groups fs o) (hne : ∀ f ∈ fs, f.1.size ≠ 0) (k : Nat) (hk : k ≤ o.length) : scanN (lastOf o k) fs = if hlt : k < o.length then (o[k]).1 else ⟨#[]⟩ := by
  have hno : ∀ f ∈ o, f.1.size ≠ 0 := fun f hf => by
    obtain ⟨g, hg, e⟩ := (h.names f.1).1 ⟨f, hf, rfl⟩
    rw [← e]; exact hne g hg
  have hge : ∀ j, (hj : j < o.length) → k ≤ j → ltB (lastOf o k) (o[j]).1 = true := fun j hj hkj => by
    unfold lastOf
    split
    · exact ltB_nil (hno _ (List.getElem_mem hj))
    · rw [List.getD_eq_getElem?_getD, List.getElem?_eq_getElem (show k - 1 < o.length by omega)]
      exact h.rising.get (by omega) hj
  have hlt : ∀ j, (hj : j < o.length) → j < k → ltB (lastOf o k) (o[j]).1 = false := fun j hj hkj => by
    unfold lastOf
    rw [if_neg (by omega), List.getD_eq_getElem?_getD, List.getElem?_eq_getElem (show k - 1 < o.length by omega)]
    show ltB (o[k - 1]).1 (o[j]).1 = false
    by_cases e : j = k - 1
    · subst e; exact ltB_irrefl _
    · exact ltB_asymm (h.rising.get (show j < k - 1 by omega) (by omega))
  rcases scan_spec (lastOf o k) fs hne with ⟨s1, s2⟩ | ⟨s1, ⟨x, hx, ex⟩, s3, s4⟩
  · rw [s1, dif_neg]
    intro hk'
    obtain ⟨y, hy, ey⟩ := (h.names (o[k]).1).1 ⟨_, List.getElem_mem hk', rfl⟩
    have h1 := s2 y hy
    rw [ey, hge k hk' (Nat.le_refl _)] at h1
    cases h1
  · obtain ⟨z, hz, ez⟩ := (h.names x.1).2 ⟨x, hx, rfl⟩
    obtain ⟨j, hj, rfl⟩ := List.mem_iff_getElem.1 hz
    have hjk : k ≤ j := by
      refine Nat.le_of_not_lt fun hjk => ?_
      have h1 := hlt j hj hjk
      rw [ez, ex, s3] at h1
      cases h1
    have hk' : k < o.length := by omega
    rw [dif_pos hk', ← ex, ← ez]
    have h2 : ¬ k < j := fun hkj => by
      obtain ⟨y, hy, ey⟩ := (h.names (o[k]).1).1 ⟨_, List.getElem_mem hk', rfl⟩
      have h1 := s4 y hy (by rw [ey]; exact hge k hk' (Nat.le_refl _))
      rw [ey, ← ex, ← ez, h.rising.get hkj hj] at h1
      cases h1
    obtain rfl : k = j := by omega
    rfl

theorem scan_size {fs o : List Fld} (h : Groups fs o) (hne : ∀ f ∈ fs, f.1.size ≠ 0) {k : Nat} (hk : k < o.length) : (o[k]).1.size ≠ 0 := by
  obtain ⟨g, hg, e⟩ := (h.names (o[k]).1).1 ⟨_, List.getElem_mem hk, rfl⟩
  rw [← e]; exact hne g hg

/-- A group's texts, nine of them at most. -/
def capF (f : Fld) : Fld := (f.1, f.2.take 9)

theorem cap_getD (o : List Fld) (i : Nat) : ((o.map capF).getD i default).1 = (o.getD i default).1 := by
  rw [List.getD_eq_getElem?_getD, List.getD_eq_getElem?_getD, List.getElem?_map]
  cases o[i]? with
  | none => rfl
  | some _ => rfl

theorem cap_id {f : Fld} (h : f.2.length ≤ 8) : capF f = f := by
  unfold capF
  rw [List.take_of_length_le (by omega)]

theorem cap_map {o : List Fld} (h : ∀ f ∈ o, f.2.length ≤ 8) : o.map capF = o := by
  induction o with
  | nil => rfl
  | cons f o ih => rw [List.map_cons, cap_id (h f (by simp)), ih (fun g hg => h g (by simp [hg]))]

theorem cap_may (o : List Fld) : mayB (o.map capF) = mayB o := by
  by_cases hs : ∀ f ∈ o, f.2.length ≤ 8
  · rw [cap_map hs]
  · have hno : ∃ f ∈ o, ¬ f.2.length ≤ 8 := by
      refine Classical.byContradiction fun hc => hs fun f hf => Classical.byContradiction fun hl => hc ⟨f, hf, hl⟩
    obtain ⟨f, hf, hl⟩ := hno
    have e1 : mayB o = false := by
      cases hm : mayB o with
      | false => rfl
      | true => have := (fits_parts (may_fits hm f hf)).2.2.1; omega
    have e2 : mayB (o.map capF) = false := by
      cases hm : mayB (o.map capF) with
      | false => rfl
      | true =>
        have := (fits_parts (may_fits hm (capF f) (List.mem_map.2 ⟨f, hf, rfl⟩))).2.2.1
        simp only [capF, List.length_take] at this
        omega
    rw [e1, e2]

/-- What the reference asks at its end. -/
theorem cap_end (o : List Fld) : (decide (16 < o.length) || !mayB ((o.take 17).map capF)) = !mayB o := by
  by_cases h : 16 < o.length
  · rw [decide_eq_true h, may_long h]; rfl
  · rw [decide_eq_false h, Bool.false_or, List.take_of_length_le (by omega), cap_may]

theorem cap_same {o : List Fld} (h : mayB o = true) : (o.take 17).map capF = o := by
  have := (may_parts h).1
  rw [List.take_of_length_le (by omega), cap_map fun f hf => (fits_parts (may_fits h f hf)).2.2.1]

end Go.Proofs.YtelcongbnmfegabGreatDoor

/-
  Rising lists: one more in its place; the order of keys. No program.
-/
namespace Go.Proofs.YtelcongbnmfegabGreatDoor
open Go.RowKit Go.Lib

abbrev Ky := ByteArray × ByteArray

structure Tot {α : Type} (lt : α → α → Bool) : Prop where
  irr : ∀ a, lt a a = false
  tr : ∀ a b c, lt a b = true → lt b c = true → lt a c = true
  tot : ∀ a b, lt a b = true ∨ a = b ∨ lt b a = true

def RisingR {α : Type} (lt : α → α → Bool) (l : List α) : Prop := l.Pairwise fun x y => lt x y = true

def insR {α : Type} [DecidableEq α] (lt : α → α → Bool) (x : α) : List α → List α
  | [] => [x]
  | y :: r => if lt x y then x :: y :: r else if x = y then y :: r else y :: insR lt x r

theorem mem_insR {α : Type} [DecidableEq α] (lt : α → α → Bool) (x z : α) (l : List α) : z ∈ insR lt x l ↔ z = x ∨ z ∈ l := by
  induction l with
  | nil => simp [insR]
  | cons y r ih =>
    unfold insR
    split
    · simp
    · split
      · next h => subst h; simp
      · rw [List.mem_cons, ih, List.mem_cons]
        constructor
        · rintro (h | h | h)
          · exact Or.inr (Or.inl h)
          · exact Or.inl h
          · exact Or.inr (Or.inr h)
        · rintro (h | h | h)
          · exact Or.inr (Or.inl h)
          · exact Or.inl h
          · exact Or.inr (Or.inr h)

theorem rising_insR {α : Type} [DecidableEq α] {lt : α → α → Bool} (T : Tot lt) (x : α) {l : List α} (h : RisingR lt l) : RisingR lt (insR lt x l) := by
  induction l with
  | nil => exact List.pairwise_cons.2 ⟨fun _ h => by simp at h, List.Pairwise.nil⟩
  | cons y r ih =>
    obtain ⟨h1, h2⟩ := List.pairwise_cons.1 h
    unfold insR
    split
    · next hx =>
      refine List.pairwise_cons.2 ⟨fun z hz => ?_, h⟩
      rcases List.mem_cons.1 hz with rfl | hz
      · exact hx
      · exact T.tr _ _ _ hx (h1 z hz)
    · next hx =>
      split
      · exact h
      · next hne =>
        refine List.pairwise_cons.2 ⟨fun z hz => ?_, ih h2⟩
        rcases (mem_insR lt x z r).1 hz with rfl | hz
        · rcases T.tot y z with h | h | h
          · exact h
          · exact absurd h.symm hne
          · exact absurd h hx
        · exact h1 z hz

theorem rising_uniqR {α : Type} {lt : α → α → Bool} (T : Tot lt) : ∀ {r s : List α}, RisingR lt r → RisingR lt s → (∀ x, x ∈ r ↔ x ∈ s) → r = s
  | [], [], _, _, _ => rfl
  | [], y :: s, _, _, h => by have := (h y).2 (by simp); simp at this
  | x :: r, [], _, _, h => by have := (h x).1 (by simp); simp at this
  | x :: r, y :: s, hr, hs, h => by
    obtain ⟨r1, r2⟩ := List.pairwise_cons.1 hr
    obtain ⟨s1, s2⟩ := List.pairwise_cons.1 hs
    have hxy : x = y := by
      rcases List.mem_cons.1 ((h x).1 (by simp)) with e | hx
      · exact e
      · rcases List.mem_cons.1 ((h y).2 (by simp)) with e | hy
        · exact e.symm
        · have h1 := T.tr _ _ _ (r1 y hy) (s1 x hx)
          rw [T.irr] at h1
          cases h1
    subst hxy
    rw [rising_uniqR T r2 s2 fun z => ?_]
    constructor
    · intro hz
      rcases List.mem_cons.1 ((h z).1 (List.mem_cons_of_mem _ hz)) with e | hz'
      · subst e; have := r1 z hz; rw [T.irr] at this; cases this
      · exact hz'
    · intro hz
      rcases List.mem_cons.1 ((h z).2 (List.mem_cons_of_mem _ hz)) with e | hz'
      · subst e; have := s1 z hz; rw [T.irr] at this; cases this
      · exact hz'

/-- One more, where the search has found its place. -/
theorem insR_at {α : Type} [DecidableEq α] {lt : α → α → Bool} (T : Tot lt) (x : α) : ∀ (l : List α) (p : Nat), p ≤ l.length → (∀ i, (h : i < p) → (h' : i < l.length) → lt l[i] x = true) → (∀ h : p < l.length, lt x l[p] = true) → insR lt x l = l.take p ++ x :: l.drop p
  | [], 0, _, _, _ => rfl
  | [], p + 1, h, _, _ => absurd h (by simp)
  | y :: r, 0, _, _, h2 => by
    have := h2 (by simp)
    simp only [List.getElem_cons_zero] at this
    unfold insR
    rw [if_pos this]
    rfl
  | y :: r, p + 1, h, h1, h2 => by
    have hy := h1 0 (by omega) (by simp)
    simp only [List.getElem_cons_zero] at hy
    have hxy : lt x y = false := by
      cases e : lt x y with
      | false => rfl
      | true => have := T.tr _ _ _ hy e; rw [T.irr] at this; cases this
    have hne : x ≠ y := fun e => by subst e; rw [T.irr] at hy; cases hy
    unfold insR
    rw [if_neg (by rw [hxy]; simp), if_neg hne, insR_at T x r p (by simpa using h) (fun i hi hi' => ?_) (fun hp => ?_)]
    · rfl
    · have := h1 (i + 1) (by omega) (by simpa using hi')
      simpa using this
    · have := h2 (by simpa using hp)
      simpa using this

/-- One that is there already. -/
theorem insR_there {α : Type} [DecidableEq α] {lt : α → α → Bool} (T : Tot lt) {x : α} {l : List α} (h : RisingR lt l) (hx : x ∈ l) : insR lt x l = l :=
  rising_uniqR T (rising_insR T x h) h fun z => by
    rw [mem_insR]
    exact ⟨fun hz => by rcases hz with rfl | hz <;> assumption, Or.inr⟩

/-- What a search by halves finds out at the place m. -/
theorem rising_low {α : Type} {lt : α → α → Bool} (T : Tot lt) {l : List α} (h : RisingR lt l) {x : α} {m : Nat} (hm : m < l.length) (hx : lt l[m] x = true) : ∀ i, (hi : i ≤ m) → lt (l[i]'(by omega)) x = true := by
  intro i hi
  rcases Nat.lt_or_eq_of_le hi with hlt | rfl
  · exact T.tr _ _ _ (List.pairwise_iff_getElem.1 h i m (by omega) hm hlt) hx
  · exact hx

theorem rising_high {α : Type} {lt : α → α → Bool} (T : Tot lt) {l : List α} (h : RisingR lt l) {x : α} {m : Nat} (hm : m < l.length) (hx : lt l[m] x = false) : ∀ i, (hi : m ≤ i) → (h' : i < l.length) → lt l[i] x = false := by
  intro i hi h'
  rcases Nat.lt_or_eq_of_le hi with hlt | rfl
  · cases e : lt l[i] x with
    | false => rfl
    | true =>
      have := T.tr _ _ _ (List.pairwise_iff_getElem.1 h m i hm h' hlt) e
      rw [hx] at this
      cases this
  · exact hx

/-- The place that a search by halves ends at: what is there already, or where it goes. -/
theorem put_there {α : Type} [DecidableEq α] {lt : α → α → Bool} (T : Tot lt) {l : List α} (h : RisingR lt l) {x : α} {p : Nat} (hp : p < l.length) (he : l[p] = x) : insR lt x l = l :=
  insR_there T h (by rw [← he]; exact List.getElem_mem hp)

theorem put_new {α : Type} [DecidableEq α] {lt : α → α → Bool} (T : Tot lt) {l : List α} {x : α} {p : Nat} (hp : p ≤ l.length) (h1 : ∀ i, (h : i < p) → (h' : i < l.length) → lt l[i] x = true) (h2 : ∀ h : p < l.length, lt l[p] x = false) (hne : ∀ h : p < l.length, l[p] ≠ x) :
    insR lt x l = l.take p ++ x :: l.drop p :=
  insR_at T x l p hp h1 fun h => by
    rcases T.tot x l[p] with e | e | e
    · exact e
    · exact absurd e.symm (hne h)
    · rw [h2 h] at e; cases e

theorem totB : Tot ltB := ⟨ltB_irrefl, fun _ _ _ => ltB_trans, ltB_cases⟩

def ltKy (a b : Ky) : Bool := ltB a.1 b.1 || (decide (a.1 = b.1) && ltB a.2 b.2)

theorem ltKy_true {a b : Ky} : ltKy a b = true ↔ ltB a.1 b.1 = true ∨ a.1 = b.1 ∧ ltB a.2 b.2 = true := by simp [ltKy]

theorem totK : Tot ltKy where
  irr a := by
    cases h : ltKy a a with
    | false => rfl
    | true =>
      rcases ltKy_true.1 h with h | ⟨_, h⟩
      · rw [ltB_irrefl] at h; cases h
      · rw [ltB_irrefl] at h; cases h
  tr a b c h k := by
    rw [ltKy_true] at *
    rcases h with h | ⟨h, h'⟩ <;> rcases k with k | ⟨k, k'⟩
    · exact Or.inl (ltB_trans h k)
    · exact Or.inl (by rw [← k]; exact h)
    · exact Or.inl (by rw [h]; exact k)
    · exact Or.inr ⟨h.trans k, ltB_trans h' k'⟩
  tot a b := by
    rw [ltKy_true, ltKy_true]
    rcases ltB_cases a.1 b.1 with h | h | h
    · exact Or.inl (Or.inl h)
    · rcases ltB_cases a.2 b.2 with k | k | k
      · exact Or.inl (Or.inr ⟨h, k⟩)
      · exact Or.inr (Or.inl (Prod.ext h k))
      · exact Or.inr (Or.inr (Or.inr ⟨h.symm, k⟩))
    · exact Or.inr (Or.inr (Or.inl h))

end Go.Proofs.YtelcongbnmfegabGreatDoor

/-
  The plain mathematics of edits: which may be, what they do to a value, and what makes one value of another.
-/
namespace Go.Proofs.YtelcongbnmfegabGreatDoor
open Go.RowKit

/-- An edit: its kind, its field's name, its text. -/
abbrev Ed := Int × ByteArray × ByteArray

def encE (x : Ed) : List Value := [.int .i64 x.1, .string x.2.1, .string x.2.2]

def KE : Kind Ed := ⟨24, 3, encE, fun _ => rfl, by decide, fun x u hu => by simp [encE] at hu; rcases hu with rfl | rfl | rfl <;> rfl⟩

/-- Edits that a machine can hold. -/
def FitE (l : List Ed) : Prop := l.length ≤ maxLen ∧ ∀ x ∈ l, x.2.1.size ≤ maxLen ∧ x.2.2.size ≤ maxLen ∧ -9223372036854775808 ≤ x.1 ∧ x.1 ≤ 9223372036854775807

def namedE (x : Ed) : Bool := fieldB x.2.1.data.toList
def rightE (x : Ed) : Bool := decide (1 ≤ x.1) && decide (x.1 ≤ 5) && (decide (x.1 ≠ 4) || decide (x.2.2.size = 0))
def shortE (x : Ed) : Bool := decide (x.2.2.size ≤ 128)
/-- What May answers. -/
def mayE (l : List Ed) : Int := if 16 < l.length then 5 else if l.all namedE = false then 2 else if l.all rightE = false then 1 else if l.all shortE = false then 5 else 0

theorem mayE_zero {l : List Ed} (h : mayE l = 0) : l.length ≤ 16 ∧ (∀ x ∈ l, namedE x = true) ∧ (∀ x ∈ l, rightE x = true) ∧ ∀ x ∈ l, shortE x = true := by
  unfold mayE at h
  split at h
  · omega
  · rename_i h1
    split at h
    · omega
    · rename_i h2
      split at h
      · omega
      · rename_i h3
        split at h
        · omega
        · rename_i h4
          exact ⟨by omega, List.all_eq_true.1 (by simpa using h2), List.all_eq_true.1 (by simpa using h3), List.all_eq_true.1 (by simpa using h4)⟩

theorem mayE_of {l : List Ed} (h0 : l.length ≤ 16) (h1 : ∀ x ∈ l, namedE x = true) (h2 : ∀ x ∈ l, rightE x = true) (h3 : ∀ x ∈ l, shortE x = true) : mayE l = 0 := by
  unfold mayE
  rw [if_neg (by omega), if_neg (by rw [List.all_eq_true.2 h1]; decide), if_neg (by rw [List.all_eq_true.2 h2]; decide), if_neg (by rw [List.all_eq_true.2 h3]; decide)]

theorem mayE_nil : mayE [] = 0 := mayE_of (by decide) (fun x hx => by cases hx) (fun x hx => by cases hx) (fun x hx => by cases hx)

/-- A value with other texts for a name, in its place (none: without it). -/
def setF (v : List Fld) (n : ByteArray) (ts : List ByteArray) : List Fld :=
  v.filter (fun f => ltB f.1 n) ++ ((if ts.isEmpty then [] else [(n, ts)]) ++ v.filter (fun f => ltB n f.1))

def NoBare (v : List Fld) : Prop := ∀ f ∈ v, f.2 ≠ []

theorem setF_mem {v : List Fld} {n : ByteArray} {ts : List ByteArray} {f : Fld} : f ∈ setF v n ts ↔ (f ∈ v ∧ f.1 ≠ n) ∨ (f = (n, ts) ∧ ts ≠ []) := by
  have hl : ∀ g : Fld, (ltB g.1 n = true ∨ ltB n g.1 = true) ↔ g.1 ≠ n := fun g => by
    constructor
    · rintro (h | h)
      · exact ltB_ne h
      · exact (ltB_ne h).symm
    · intro h
      rcases ltB_cases g.1 n with k | k | k
      · exact Or.inl k
      · exact absurd k h
      · exact Or.inr k
  unfold setF
  rw [List.mem_append, List.mem_append, List.mem_filter, List.mem_filter]
  cases ts with
  | nil =>
    simp only [List.isEmpty_nil, if_true, List.not_mem_nil, false_or, ne_eq, not_true_eq_false, and_false, or_false]
    rw [← and_or_left, hl]
  | cons t ts =>
    simp only [List.isEmpty_cons, Bool.false_eq_true, if_false, List.mem_singleton, ne_eq, reduceCtorEq, not_false_eq_true, and_true]
    constructor
    · rintro (⟨h1, h2⟩ | h | ⟨h1, h2⟩)
      · exact Or.inl ⟨h1, (hl f).1 (Or.inl h2)⟩
      · exact Or.inr h
      · exact Or.inl ⟨h1, (hl f).1 (Or.inr h2)⟩
    · rintro (⟨h1, h2⟩ | h)
      · rcases (hl f).2 h2 with k | k
        · exact Or.inl ⟨h1, k⟩
        · exact Or.inr (Or.inr ⟨h1, k⟩)
      · exact Or.inr (Or.inl h)

theorem setF_rising {v : List Fld} (h : Rising v) (n : ByteArray) (ts : List ByteArray) : Rising (setF v n ts) := by
  unfold setF Rising
  refine List.pairwise_append.2 ⟨List.Pairwise.filter _ h, List.pairwise_append.2 ⟨?_, List.Pairwise.filter _ h, ?_⟩, ?_⟩
  · cases ts <;> simp
  · intro a ha b hb
    have hb2 := (List.mem_filter.1 hb).2
    cases ts with
    | nil => simp at ha
    | cons t ts =>
      simp at ha
      rw [ha]; exact hb2
  · intro a ha b hb
    have ha2 : ltB a.1 n = true := (List.mem_filter.1 ha).2
    rcases List.mem_append.1 hb with hb | hb
    · cases ts with
      | nil => simp at hb
      | cons t ts =>
        simp at hb
        rw [hb]; exact ha2
    · exact ltB_trans ha2 (List.mem_filter.1 hb).2

theorem setF_nobare {v : List Fld} (h : NoBare v) (n : ByteArray) (ts : List ByteArray) : NoBare (setF v n ts) := fun f hf => by
  rcases setF_mem.1 hf with ⟨h1, _⟩ | ⟨rfl, h1⟩
  · exact h f h1
  · exact h1

theorem textsOf_mem {v : List Fld} (h : Rising v) {f : Fld} (hf : f ∈ v) : textsOf v f.1 = f.2 := by
  obtain ⟨i, hi, rfl⟩ := List.mem_iff_getElem.1 hf
  exact textsOf_at v _ i hi (fun _ hj => ltB_ne (h.get hj hi)) rfl

theorem textsOf_out {v : List Fld} {n : ByteArray} (h : ∀ f ∈ v, f.1 ≠ n) : textsOf v n = [] := textsOf_no v n fun _ hj => h _ (List.getElem_mem hj)

theorem textsOf_cases (v : List Fld) (h : Rising v) (n : ByteArray) : (textsOf v n = [] ∧ ∀ f ∈ v, f.1 ≠ n) ∨ (n, textsOf v n) ∈ v := by
  by_cases hx : ∃ f ∈ v, f.1 = n
  · obtain ⟨f, hf, rfl⟩ := hx
    right
    rw [textsOf_mem h hf]
    exact hf
  · have h2 : ∀ f ∈ v, f.1 ≠ n := fun f hf e => hx ⟨f, hf, e⟩
    exact Or.inl ⟨textsOf_out h2, h2⟩

theorem textsOf_ne {v : List Fld} (h : Rising v) (hb : NoBare v) (n : ByteArray) : textsOf v n ≠ [] ↔ n ∈ v.map (·.1) := by
  rcases textsOf_cases v h n with ⟨h1, h2⟩ | h1
  · rw [h1]
    constructor
    · intro h; exact absurd rfl h
    · intro hm
      obtain ⟨f, hf, e⟩ := List.mem_map.1 hm
      exact absurd e (h2 f hf)
  · exact ⟨fun _ => List.mem_map.2 ⟨_, h1, rfl⟩, fun _ => hb _ h1⟩

theorem textsOf_set {v : List Fld} (h : Rising v) (n m : ByteArray) (ts : List ByteArray) : textsOf (setF v n ts) m = if m = n then ts else textsOf v m := by
  have hr := setF_rising h n ts
  by_cases e : m = n
  · subst e
    rw [if_pos rfl]
    cases ts with
    | nil =>
      refine textsOf_out fun f hf => ?_
      rcases setF_mem.1 hf with ⟨_, h1⟩ | ⟨_, h1⟩
      · exact h1
      · exact absurd rfl h1
    | cons t ts => exact textsOf_mem (f := (m, t :: ts)) hr (setF_mem.2 (Or.inr ⟨rfl, by simp⟩))
  · rw [if_neg e]
    rcases textsOf_cases v h m with ⟨h1, h2⟩ | h1
    · rw [h1]
      refine textsOf_out fun f hf => ?_
      rcases setF_mem.1 hf with ⟨h3, _⟩ | ⟨rfl, _⟩
      · exact h2 f h3
      · exact fun k => e k.symm
    · exact textsOf_mem (f := (m, textsOf v m)) hr (setF_mem.2 (Or.inl ⟨h1, e⟩))

theorem byTexts {v : List Fld} (h : Rising v) : v = (v.map (·.1)).map fun m => (m, textsOf v m) := by
  rw [List.map_map]
  conv => lhs; rw [← List.map_id v]
  refine List.map_congr_left fun f hf => ?_
  show f = (f.1, textsOf v f.1)
  rw [textsOf_mem h hf]

theorem rising_names {v : List Fld} (h : Rising v) : RisingR ltB (v.map (·.1)) := List.pairwise_map.2 h

/-- A value is what its names' texts are. -/
theorem value_unique {a b : List Fld} (ha : Rising a) (hb : Rising b) (na : NoBare a) (nb : NoBare b) (h : ∀ m, textsOf a m = textsOf b m) : a = b := by
  have hn : a.map (·.1) = b.map (·.1) := rising_uniqR totB (rising_names ha) (rising_names hb) fun m => by
    rw [← textsOf_ne ha na, ← textsOf_ne hb nb, h m]
  rw [byTexts ha, byTexts hb, hn]
  exact List.map_congr_left fun m _ => by rw [h m]

theorem setF_set {v : List Fld} (n : ByteArray) (a b : List ByteArray) : setF (setF v n a) n b = setF v n b := by
  have e1 : (setF v n a).filter (fun f => ltB f.1 n) = v.filter fun f => ltB f.1 n := by
    unfold setF
    rw [List.filter_append, List.filter_append, List.filter_filter, List.filter_filter]
    have h1 : (if a.isEmpty then [] else [(n, a)] : List Fld).filter (fun f => ltB f.1 n) = [] := by
      cases a <;> simp [ltB_irrefl]
    have h2 : v.filter (fun f => ltB f.1 n && ltB n f.1) = [] := List.filter_eq_nil_iff.2 fun f _ => by
      cases hl : ltB f.1 n with
      | false => simp
      | true => rw [ltB_asymm hl]; simp
    rw [h1, h2]
    simp
  have e2 : (setF v n a).filter (fun f => ltB n f.1) = v.filter fun f => ltB n f.1 := by
    unfold setF
    rw [List.filter_append, List.filter_append, List.filter_filter, List.filter_filter]
    have h1 : (if a.isEmpty then [] else [(n, a)] : List Fld).filter (fun f => ltB n f.1) = [] := by
      cases a <;> simp [ltB_irrefl]
    have h2 : v.filter (fun f => ltB n f.1 && ltB f.1 n) = [] := List.filter_eq_nil_iff.2 fun f _ => by
      cases hl : ltB f.1 n with
      | false => simp
      | true => rw [ltB_asymm hl]; simp
    rw [h1, h2]
    simp
  show (setF v n a).filter (fun f => ltB f.1 n) ++ ((if b.isEmpty then [] else [(n, b)]) ++ (setF v n a).filter (fun f => ltB n f.1)) = _
  rw [e1, e2]
  rfl

theorem setF_len (v : List Fld) (n : ByteArray) (ts : List ByteArray) : (setF v n ts).length ≤ v.length + 1 := by
  have h1 : ∀ w : List Fld, (w.filter fun f => ltB f.1 n).length + (w.filter fun f => ltB n f.1).length ≤ w.length := by
    intro w
    induction w with
    | nil => simp
    | cons f w ih =>
      rw [List.filter_cons, List.filter_cons]
      cases hl : ltB f.1 n with
      | true =>
        rw [ltB_asymm hl]
        simp
        omega
      | false =>
        cases ltB n f.1 <;> simp <;> omega
  have h2 := h1 v
  unfold setF
  rw [List.length_append, List.length_append]
  cases ts <;> simp <;> omega

theorem snocInd {P : List Fld → Prop} (h0 : P []) (h1 : ∀ v f, P v → P (v ++ [f])) : ∀ v, P v := fun v => by
  have : ∀ (k : Nat) (v : List Fld), v.length = k → P v := by
    intro k
    induction k with
    | zero => intro v hv; rw [List.length_eq_zero_iff.1 hv]; exact h0
    | succ k ih =>
      intro v hv
      rcases List.eq_nil_or_concat v with rfl | ⟨l, b, rfl⟩
      · simp at hv
      · rw [List.concat_eq_append]; exact h1 l b (ih l (by simpa using hv))
  exact this _ v rfl

/-- How the reference goes through a value: what it has written, and whether the name is done. -/
def withS (n : ByteArray) (ts : List ByteArray) (s : List Fld × Bool) (f : Fld) : List Fld × Bool :=
  if f.1 = n then (if s.2 = false ∧ ltB f.1 n = false then s.1 ++ [(n, ts)] else s.1, s.2 || !ltB f.1 n)
  else ((if s.2 = false ∧ ltB f.1 n = false then s.1 ++ [(n, ts)] else s.1) ++ [f], s.2 || !ltB f.1 n)

def withG (n : ByteArray) (ts : List ByteArray) (v : List Fld) : List Fld × Bool := v.foldl (withS n ts) ([], ts.isEmpty)

theorem withG_snoc (n : ByteArray) (ts : List ByteArray) (v : List Fld) (f : Fld) : withG n ts (v ++ [f]) = withS n ts (withG n ts v) f := by simp [withG]

theorem withG_is {n : ByteArray} {ts : List ByteArray} (v : List Fld) (h : Rising v) :
    withG n ts v = (v.filter (fun f => ltB f.1 n) ++ ((if ts.isEmpty || v.all (fun f => ltB f.1 n) then [] else [(n, ts)]) ++ v.filter (fun f => ltB n f.1)), ts.isEmpty || !v.all fun f => ltB f.1 n) := by
  induction v using snocInd with
  | h0 => simp [withG]
  | h1 v f ih =>
    have hr := List.pairwise_append.1 h
    have hv : ∀ g ∈ v, ltB g.1 f.1 = true := fun g hg => hr.2.2 g hg f (by simp)
    rw [withG_snoc, ih hr.1]
    clear ih
    unfold withS
    rw [List.filter_append, List.filter_append, List.all_append]
    simp only [List.all_cons, List.all_nil, Bool.and_true]
    rcases ltB_cases f.1 n with k | k | k
    · have hall : v.all (fun g => ltB g.1 n) = true := List.all_eq_true.2 fun g hg => ltB_trans (hv g hg) k
      have k2 := ltB_asymm k
      have hno : v.filter (fun g => ltB n g.1) = [] := List.filter_eq_nil_iff.2 fun g hg => by rw [ltB_asymm (List.all_eq_true.1 hall g hg)]; simp
      simp [k, k2, hall, hno, ltB_ne k]
    · subst k
      have hall : v.all (fun g => ltB g.1 f.1) = true := List.all_eq_true.2 hv
      have hno : v.filter (fun g => ltB f.1 g.1) = [] := List.filter_eq_nil_iff.2 fun g hg => by rw [ltB_asymm (hv g hg)]; simp
      cases ts <;> simp [ltB_irrefl, hall, hno]
    · have k2 := ltB_asymm k
      have k3 : f.1 ≠ n := (ltB_ne k).symm
      cases hall : v.all (fun g => ltB g.1 n) with
      | true =>
        have hno : v.filter (fun g => ltB n g.1) = [] := List.filter_eq_nil_iff.2 fun g hg => by rw [ltB_asymm (List.all_eq_true.1 hall g hg)]; simp
        cases ts <;> simp [k, k2, k3, hno]
      | false => cases ts <;> simp [k, k2, k3]

theorem with_end {n : ByteArray} {ts : List ByteArray} {v : List Fld} (h : Rising v) :
    (if (withG n ts v).2 then (withG n ts v).1 else (withG n ts v).1 ++ [(n, ts)]) = setF v n ts := by
  rw [withG_is v h]
  unfold setF
  cases ts with
  | nil => simp
  | cons t ts =>
    cases hall : v.all (fun g => ltB g.1 n) with
    | true =>
      have hno : v.filter (fun g => ltB n g.1) = [] := List.filter_eq_nil_iff.2 fun g hg => by rw [ltB_asymm (List.all_eq_true.1 hall g hg)]; simp
      simp [hno]
    | false => simp

/-- What stays of texts when one goes. -/
def restT (old : List ByteArray) (t : ByteArray) : List ByteArray := old.filter fun u => !decide (u = t)

/-- What one edit does: the error (0: none), and what comes out. -/
def doE (r : List Fld) (x : Ed) : Int × List Fld :=
  if x.1 = 1 then (0, setF r x.2.1 [x.2.2])
  else if x.1 = 2 then (0, setF r x.2.1 (textsOf r x.2.1 ++ [x.2.2]))
  else if x.1 = 3 then (if (restT (textsOf r x.2.1) x.2.2).length < (textsOf r x.2.1).length then (0, setF r x.2.1 (restT (textsOf r x.2.1) x.2.2)) else (6, []))
  else if x.1 = 4 then (0, setF r x.2.1 [])
  else if x.1 = 5 then (if (restT (textsOf r x.2.1) x.2.2).length < (textsOf r x.2.1).length then (0, r) else (13, []))
  else (0, r)

def runE : List Fld → List Ed → Int × List Fld
  | r, [] => (0, r)
  | r, x :: l => if (doE r x).1 = 0 then runE (doE r x).2 l else ((doE r x).1, [])

theorem runE_append (r : List Fld) (a b : List Ed) : runE r (a ++ b) = if (runE r a).1 = 0 then runE (runE r a).2 b else ((runE r a).1, []) := by
  induction a generalizing r with
  | nil => simp [runE]
  | cons x a ih =>
    simp only [List.cons_append, runE]
    by_cases h : (doE r x).1 = 0
    · simp only [if_pos h, ih]
    · simp only [if_neg h]

/-- What Apply answers. -/
def codeA (v : List Fld) (l : List Ed) : Int :=
  if mayB v = false then 3 else if mayE l ≠ 0 then mayE l else if (runE v l).1 ≠ 0 then (runE v l).1 else if mayB (runE v l).2 = false then 5 else 0
def ansA (v : List Fld) (l : List Ed) : List Fld := if codeA v l = 0 then (runE v l).2 else []

theorem codeA_zero {v : List Fld} {l : List Ed} (h : codeA v l = 0) : mayB v = true ∧ mayE l = 0 ∧ (runE v l).1 = 0 ∧ mayB (runE v l).2 = true := by
  unfold codeA at h
  split at h
  · omega
  · rename_i h1
    split at h
    · rename_i h2; exact absurd h h2
    · rename_i h2
      split at h
      · rename_i h3; exact absurd h h3
      · rename_i h3
        split at h
        · omega
        · rename_i h4
          exact ⟨by simpa using h1, by simpa using h2, by simpa using h3, by simpa using h4⟩

theorem codeA_of {v : List Fld} {l : List Ed} (h1 : mayB v = true) (h2 : mayE l = 0) (h3 : (runE v l).1 = 0) (h4 : mayB (runE v l).2 = true) : codeA v l = 0 := by
  unfold codeA
  rw [if_neg (by rw [h1]; decide), if_neg (by rw [h2]; decide), if_neg (by rw [h3]; decide), if_neg (by rw [h4]; decide)]

theorem ansA_may {v : List Fld} {l : List Ed} (h : codeA v l = 0) : mayB (ansA v l) = true := by
  unfold ansA
  rw [if_pos h]
  exact (codeA_zero h).2.2.2

/-- A value on its way through edits: k of them are done. -/
structure OkR (k : Nat) (r : List Fld) : Prop where
  rise : Rising r
  full : NoBare r
  len : r.length ≤ 16 + k
  each : ∀ f ∈ r, fieldB f.1.data.toList = true ∧ f.2.length ≤ 8 + k ∧ ∀ t ∈ f.2, t.size ≤ 128

theorem okR_texts {k : Nat} {r : List Fld} (h : OkR k r) (n : ByteArray) : (textsOf r n).length ≤ 8 + k ∧ ∀ t ∈ textsOf r n, t.size ≤ 128 := by
  rcases textsOf_cases r h.rise n with ⟨h1, _⟩ | h1
  · rw [h1]; exact ⟨by simp, fun t ht => by cases ht⟩
  · exact (h.each _ h1).2

theorem okR_set {k : Nat} {r : List Fld} (h : OkR k r) {n : ByteArray} {ts : List ByteArray} (hn : fieldB n.data.toList = true) (hl : ts.length ≤ 8 + k + 1) (ht : ∀ t ∈ ts, t.size ≤ 128) : OkR (k + 1) (setF r n ts) where
  rise := setF_rising h.rise n ts
  full := setF_nobare h.full n ts
  len := by have := setF_len r n ts; have := h.len; omega
  each := fun f hf => by
    rcases setF_mem.1 hf with ⟨h1, _⟩ | ⟨rfl, _⟩
    · obtain ⟨a, b, c⟩ := h.each f h1
      exact ⟨a, by omega, c⟩
    · exact ⟨hn, by omega, ht⟩

theorem okR_next {k : Nat} {r : List Fld} (h : OkR k r) : OkR (k + 1) r where
  rise := h.rise
  full := h.full
  len := by have := h.len; omega
  each := fun f hf => by
    obtain ⟨a, b, c⟩ := h.each f hf
    exact ⟨a, by omega, c⟩

theorem rest_len (old : List ByteArray) (t : ByteArray) : (restT old t).length ≤ old.length := List.length_filter_le _ _

theorem okR_do {k : Nat} {r : List Fld} (h : OkR k r) {x : Ed} (hn : namedE x = true) (hs : shortE x = true) (h0 : (doE r x).1 = 0) : OkR (k + 1) (doE r x).2 := by
  have hx := of_decide_eq_true hs
  obtain ⟨t1, t2⟩ := okR_texts h x.2.1
  have t3 := rest_len (textsOf r x.2.1) x.2.2
  unfold doE at h0 ⊢
  by_cases h1 : x.1 = 1
  · rw [if_pos h1]
    exact okR_set h hn (by simp) (fun t ht => by rw [List.mem_singleton.1 ht]; exact hx)
  · rw [if_neg h1] at h0 ⊢
    by_cases h2 : x.1 = 2
    · rw [if_pos h2]
      exact okR_set h hn (by simp; omega) (fun t ht => by
        rcases List.mem_append.1 ht with k | k
        · exact t2 t k
        · rw [List.mem_singleton.1 k]; exact hx)
    · rw [if_neg h2] at h0 ⊢
      by_cases h3 : x.1 = 3
      · rw [if_pos h3] at h0 ⊢
        by_cases hm : (restT (textsOf r x.2.1) x.2.2).length < (textsOf r x.2.1).length
        · rw [if_pos hm]
          exact okR_set h hn (by omega) (fun t ht => t2 t (List.mem_filter.1 ht).1)
        · rw [if_neg hm] at h0; simp at h0
      · rw [if_neg h3] at h0 ⊢
        by_cases h4 : x.1 = 4
        · rw [if_pos h4]
          exact okR_set h hn (by simp) (fun t ht => by cases ht)
        · rw [if_neg h4] at h0 ⊢
          by_cases h5 : x.1 = 5
          · rw [if_pos h5] at h0 ⊢
            by_cases hm : (restT (textsOf r x.2.1) x.2.2).length < (textsOf r x.2.1).length
            · rw [if_pos hm]; exact okR_next h
            · rw [if_neg hm] at h0; simp at h0
          · rw [if_neg h5]; exact okR_next h

theorem okR_run {l : List Ed} : ∀ {k : Nat} {r : List Fld}, OkR k r → (∀ x ∈ l, namedE x = true) → (∀ x ∈ l, shortE x = true) → (runE r l).1 = 0 → OkR (k + l.length) (runE r l).2 := by
  induction l with
  | nil => intro k r h _ _ _; exact h
  | cons x l ih =>
    intro k r h hn hs h0
    simp only [runE] at h0 ⊢
    by_cases hd : (doE r x).1 = 0
    · rw [if_pos hd] at h0 ⊢
      have := ih (okR_do h (hn x (by simp)) (hs x (by simp)) hd) (fun y hy => hn y (by simp [hy])) (fun y hy => hs y (by simp [hy])) h0
      rw [List.length_cons, show k + (l.length + 1) = k + 1 + l.length by omega]
      exact this
    · rw [if_neg hd] at h0; exact absurd h0 hd

end Go.Proofs.YtelcongbnmfegabGreatDoor
