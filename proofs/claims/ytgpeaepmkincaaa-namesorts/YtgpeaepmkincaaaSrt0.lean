/-
  What NameSorts makes in memory: a row with spare room, and copies into it.
-/
import Derived.Test.YtgpeaepmkincaaaRsort
import Derived.Laws.MakeOwn
import Derived.Shelf.SlSortCmp.NoneTotal
namespace Go.Proofs.Ytgpeaepmkincaaa
open Go.RowKit

def setL (dk : List (ByteArray × ByteArray)) : Nat → List (ByteArray × ByteArray) → List (ByteArray × ByteArray)
  | _, [] => dk
  | i, x :: ds => setL (dk.set i x) (i + 1) ds

theorem setL_over (pre ds zs : List (ByteArray × ByteArray)) (h : ds.length ≤ zs.length) : setL (pre ++ zs) pre.length ds = pre ++ ds ++ zs.drop ds.length := by
  induction ds generalizing pre zs with
  | nil => simp [setL]
  | cons x ds ih =>
    cases zs with
    | nil => simp at h
    | cons z zs =>
      have e : (pre ++ z :: zs).set pre.length x = (pre ++ [x]) ++ zs := by
        rw [List.set_append_right _ _ (Nat.le_refl _), Nat.sub_self]; simp
      rw [setL, e, show pre.length + 1 = (pre ++ [x]).length by simp, ih (pre ++ [x]) zs (by simpa using h)]
      simp

theorem own_setCellsL {base g n cap : Nat} : ∀ (ds dk : List (ByteArray × ByteArray)) (i : Nat) (w : World), i + ds.length ≤ dk.length → Own w base (.slice (some ⟨g, 0, none⟩) n cap) dk →
    Own (w.setCells g (i * 2) (cellsL ds)) base (.slice (some ⟨g, 0, none⟩) n cap) (setL dk i ds)
  | [], _, _, _, _, h => h
  | x :: ds, dk, i, w, hl, h => by
    rw [cellsL_cons]
    simp only [World.setCells]
    have h1 := own_storeL h i (by simp at hl; omega) x.1 x.2
    have := own_setCellsL ds (dk.set i x) (i + 1) _ (by simp at hl ⊢; omega) h1
    rw [show (i + 1) * 2 = i * 2 + 1 + 1 by omega] at this
    exact this

theorem run_copy_keys (w : World) (ty : TypeId) (g c b off c2 : Nat) (d : List (ByteArray × ByteArray)) (hk : KeysAt w b off d)
    (hc : ∀ j, j < d.length * 2 → (w.cell? ⟨g, j, none⟩).isSome = true) (hf : ∀ j, j < d.length * 2 → w.frozen? ⟨g, j, none⟩ = false) :
    (Builtin.copy_ #[31, 31] ty #[.slice (some ⟨g, 0, none⟩) d.length c, .slice (some ⟨b, off, none⟩) d.length c2]).run Try.prog w = .ok (goInt d.length) (w.setCells g 0 (cellsL d)) := by
  have hcells : ∀ j u, (cellsL d)[j]? = some u → w.cell? ((⟨b, off, none⟩ : Addr).add j) = some u := by
    intro j u hu
    have hadd : (⟨b, off, none⟩ : Addr).add j = ⟨b, off + j, none⟩ := by
      unfold Addr.add
      split
      · rename_i h; simp_all
      · rfl
    rw [hadd]
    have hj : j < d.length * 2 := by
      rw [← cellsL_length]
      rcases Nat.lt_or_ge j (cellsL d).length with h | h
      · exact h
      · rw [List.getElem?_eq_none h] at hu; cases hu
    obtain ⟨h1, h2⟩ := hk (j / 2) (by omega)
    obtain ⟨e1, e2⟩ := cellsL_get d (j / 2) (by omega)
    rcases Nat.mod_two_eq_zero_or_one j with hm | hm
    · have ej : j / 2 * 2 = j := by omega
      rw [ej] at h1 e1
      rw [e1] at hu
      rw [h1, ← hu]
    · have ej : j / 2 * 2 + 1 = j := by omega
      rw [Nat.add_assoc, ej] at h2
      rw [ej] at e2
      rw [e2] at hu
      rw [h2, ← hu]
  have hfc := run_firstCells_some (P := Try.prog) w 2 d.length ⟨b, off, none⟩ d.length c2 (cellsL d) (cellsL_length d) hcells
  have hst := run_storeCells_cells (P := Try.prog) g 0 (cellsL d) 0 w (by rw [cellsL_length]; simpa using hc) (by rw [cellsL_length]; simpa using hf) (cellsL_one d)
  simp only [Nat.add_zero] at hst
  have hmin : Nat.min d.length d.length = d.length := Nat.min_self _
  obtain ⟨i0, hi0, _, hz1, _⟩ := info_parts Try.info26
  simp [Builtin.copy_, run_underlying Try.underlying31, Builtin.lenOf, sizeOf, typeInfo, hi0, hz1, hmin, hfc, hst]

theorem run_copy_no (w : World) (ty : TypeId) (g c c2 : Nat) (p : Option Addr) :
    (Builtin.copy_ #[31, 31] ty #[.slice (some ⟨g, 0, none⟩) 0 c, .slice p 0 c2]).run Try.prog w = .ok (goInt 0) w := by
  obtain ⟨i0, hi0, _, _, _⟩ := info_parts Try.info26
  cases p <;> simp [Builtin.copy_, run_underlying Try.underlying31, Builtin.lenOf, Builtin.firstCells, sizeOf, typeInfo, hi0, storeCells, loadCells, loadCellsFrom]

theorem made_zero (n : Nat) : (madeCells #[.string ⟨#[]⟩, .string ⟨#[]⟩] (n * 2)).toList = cellsL (List.replicate n (⟨#[]⟩, ⟨#[]⟩)) := by
  apply List.ext_getElem?
  intro j
  by_cases hj : j < n * 2
  · have h1 := cellsL_get (List.replicate n ((⟨#[]⟩ : ByteArray), (⟨#[]⟩ : ByteArray))) (j / 2) (by simp; omega)
    have h2 : (cellsL (List.replicate n ((⟨#[]⟩ : ByteArray), (⟨#[]⟩ : ByteArray))))[j]? = some (.string ⟨#[]⟩) := by
      rcases Nat.mod_two_eq_zero_or_one j with hm | hm
      · have ej : j / 2 * 2 = j := by omega
        rw [ej] at h1; simpa using h1.1
      · have ej : j / 2 * 2 + 1 = j := by omega
        rw [ej] at h1; simpa using h1.2
    rw [h2]
    have hsz : (madeCells #[Value.string ⟨#[]⟩, Value.string ⟨#[]⟩] (n * 2)).size = n * 2 := by simp [madeCells]
    rw [Array.getElem?_toList, Array.getElem?_eq_getElem (by omega)]
    simp [madeCells]
    rcases Nat.mod_two_eq_zero_or_one j with h | h <;> simp [h]
  · have hsz : (madeCells #[Value.string ⟨#[]⟩, Value.string ⟨#[]⟩] (n * 2)).size = n * 2 := by simp [madeCells]
    rw [List.getElem?_eq_none (by rw [Array.length_toList]; omega), List.getElem?_eq_none (by rw [cellsL_length]; simp; omega)]

/-- Sort of a slice that holds keys, in one word with the reference's. -/
theorem nsort_any (b off c : Nat) (d : List (ByteArray × ByteArray)) (w : World) (hk : KeysAt w b off d) (hbytes : d.length * 32 ≤ 140737488355328) :
    Calls Try.prog 25 #[.slice (some ⟨b, off, none⟩) d.length c] w (SortPost d w) :=
  (sort_any b off c d w hk hbytes).mono fun _ _ ⟨v, r, h1, h2, h3, h4, h5, _, h7⟩ => ⟨v, r, h1, h2, h3, h4, h5, h7⟩

set_option maxHeartbeats 800000 in
theorem nsort_nil (w : World) : Calls Try.prog 25 #[.slice none 0 0] w (SortPost [] w) := by
  have hcl := AnyE.slices_Clone_nil Try.cloneKey 0 0 w
  change Calls Try.prog 41 _ _ _ at hcl
  have hsf := AnyF.slices_SortFunc_none Try.sortKey none 0 (.func (.func 23) #[] #[]) w
  change Calls Try.prog 42 _ _ _ at hsf
  have H1 := hid hcl
  have H2 := hid hsf
  clear hcl hsf
  go_enter Try.func25, Try.ntmps25
  go_wp2_with fail
  refine H1.out.mono ?_
  rintro e w' ⟨rfl, rfl⟩
  go_wp2_with fail
  refine H2.out.mono ?_
  rintro e w' ⟨rfl, rfl⟩
  go_wp2
  go_ret
  exact ⟨_, [], rfl, List.Pairwise.nil, fun y => Iff.rfl, Nat.le_refl _, World.ownsRow_nil _ _ 26 2, Below.refl _ _⟩

/-- The row that NameSorts makes: the keys, a mark behind them, and one place more. -/
theorem made_room (w1 : World) (b off c n : Nat) (d : List (ByteArray × ByteArray)) (hn : d.length = n) (hk : KeysAt w1 b off d) (M : Array Value) (hM : M.toList = cellsL (List.replicate (n + 2) (⟨#[]⟩, ⟨#[]⟩))) (hbytes : (n + 2) * 32 ≤ 140737488355328) :
    ∃ W2, (∀ ty, (Builtin.copy_ #[31, 31] ty #[.slice (some ⟨w1.heap.size, 0, none⟩) n (n + 2), .slice (some ⟨b, off, none⟩) n c]).run Try.prog (w1.alloc (.cells M 26)) = .ok (.int .i64 n) W2) ∧
      Own W2 w1.heap.size (.slice (some ⟨w1.heap.size, 0, none⟩) (n + 2) (n + 2)) (d ++ [(⟨#[]⟩, ⟨#[]⟩), (⟨#[]⟩, ⟨#[]⟩)]) ∧ Below w1.heap.size w1 W2 ∧ W2.heap.size = w1.heap.size + 1 := by
  have hlen : M.size = (n + 2) * 2 := by
    have := congrArg List.length hM
    rw [cellsL_length] at this
    simpa using this
  have ho : Own (w1.alloc (.cells M 26)) w1.heap.size (.slice (some ⟨w1.heap.size, 0, none⟩) (n + 2) (n + 2)) (List.replicate (n + 2) (⟨#[]⟩, ⟨#[]⟩)) := by
    have := World.ownsRow_lit (e := 26) (size := 2) w1 M (n + 2) (Nat.le_refl _) (by unfold maxLen; omega) hlen
    rw [hM] at this
    unfold Own
    simpa using this
  have hk1 : KeysAt (w1.alloc (.cells M 26)) b off d := hk.kept ((Below.refl _ _).alloc (Nat.le_refl _) _)
  subst hn
  refine ⟨_, fun ty => run_copy_keys (w1.alloc (.cells M 26)) ty w1.heap.size (d.length + 2) b off c d hk1 (fun j hj => own_some ho j (by simp; omega)) (fun j _ => own_frozen ho j), ?_, below_setCells _ (Nat.le_refl _) _ _ ((Below.refl _ _).alloc (Nat.le_refl _) _), ?_⟩
  · have h2 := own_setCellsL d _ 0 _ (by simp) ho
    have e : setL (List.replicate (d.length + 2) ((⟨#[]⟩ : ByteArray), (⟨#[]⟩ : ByteArray))) 0 d = d ++ [(⟨#[]⟩, ⟨#[]⟩), (⟨#[]⟩, ⟨#[]⟩)] := by
      have := setL_over [] d (List.replicate (d.length + 2) ((⟨#[]⟩ : ByteArray), (⟨#[]⟩ : ByteArray))) (by simp)
      simp only [List.nil_append, List.length_nil] at this
      rw [this, List.drop_replicate, show d.length + 2 - d.length = 2 by omega]
      rfl
    rw [e] at h2
    simpa using h2
  · have : ∀ (vs : List Value) (g o : Nat) (W : World), (W.setCells g o vs).heap.size = W.heap.size := by
      intro vs
      induction vs with
      | nil => intros; rfl
      | cons v vs ih => intro g o W; unfold World.setCells; rw [ih]; simp
    rw [this]
    simp

end Go.Proofs.Ytgpeaepmkincaaa
