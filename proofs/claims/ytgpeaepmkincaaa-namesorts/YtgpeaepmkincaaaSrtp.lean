/-
  For every list of keys and every number the Go function NameSorts of package foliolaw02 returns true, and each argument reads behind the call as it read before; no condition but the form that every row has by itself, that a slice takes at most 2^47 - 4096 bytes.
-/
import Derived.Test.YtgpeaepmkincaaaBase
import Derived.Test.YtgpeaepmkincaaaSrt
import Derived.Test.YtgpeaepmkincaaaSrtz
import Derived.Deep.SlicePairs
import Derived.SizedLaws
namespace Go.Proofs.Ytgpeaepmkincaaa
open Go.ChangeShapes Go.WideShapes Go.ChangeAt Go.RowKit Go.Joins Go.Deep

theorem Try.bytes26 : Try.prog.bytesOf 26 = 32 := by kernel_rfl

/-- A slice of keys that came in, with its datum: empty, or a row of keys in one block. -/
theorem open_keysZ {H : Type} {enc : TypeId × Value → H} {W : World} {b0 : Nat} {v : Value} {dd : DataW H} {p : List MemPlace}
    (hv : Value.okWide Try.prog W .any b0 31 v) (h : DataW.Trod enc Try.prog W 0 (fun _ => true) true 31 v dd p) :
    (∃ a cap, v = .slice a 0 cap) ∨ ∃ (b off cap : Nat) (d : List (ByteArray × ByteArray)) (E S : List (DataW H)), v = .slice (some ⟨b, off, none⟩) d.length cap ∧ 0 < d.length ∧ d.length ≤ cap ∧
      dd = .slice E S ∧ E.length + S.length = cap ∧ KeysAt W b off d := by
  obtain ⟨a0, len, cap, rfl⟩ := okWide_slice Try.underlying31 hv
  obtain ⟨fuel, hf⟩ := h
  rcases open_slice_pairs Try.underlying31 Try.underlying26 Try.cells26 rfl rfl Try.cells9 Try.cells9 hf with ⟨hcs, _⟩ | ⟨x, l, c, m, n, V0, V1, D0, D1, P0, P1, hcs, _, hl, hm, hmm, hdat, hall⟩
  · simp [Value.cells] at hcs
    obtain ⟨rfl, rfl, rfl⟩ := hcs
    exact .inl ⟨_, _, rfl⟩
  · simp [Value.cells] at hcs
    obtain ⟨rfl, rfl, rfl⟩ := hcs
    have hm' : m = cap := by simpa using hmm
    subst hm'
    by_cases h0 : len = 0
    · subst h0; exact .inl ⟨_, _, rfl⟩
    · right
      have each : ∀ i, i < m → ∃ s t : ByteArray, V0 i = .string s ∧ V1 i = .string t := by
        intro i hi
        obtain ⟨_, _, h3, h4⟩ := hall i hi
        obtain ⟨s, e0, _, _⟩ := DataW.trod_string Try.underlying9 h3
        obtain ⟨t, e1, _, _⟩ := DataW.trod_string Try.underlying9 h4
        simp only [List.cons.injEq, and_true] at e0 e1
        exact ⟨s, t, e0, e1⟩
      have hc0 := (hall 0 (by omega)).1
      obtain ⟨b, off, spot⟩ := x
      have hspot : spot = none := by simpa [Addr.add] using World.cell?_spot hc0
      subst hspot
      let f : Nat → ByteArray × ByteArray := fun i => if h : i < m then ((each i h).choose, (each i h).choose_spec.choose) else (⟨#[]⟩, ⟨#[]⟩)
      refine ⟨b, off, m, (List.range len).map f, _, _, by simp, by simp; omega, by simpa using hl, (Prod.mk.inj hdat).1, by simp; omega, fun i hi => ?_⟩
      have hi0 : i < len := by simpa using hi
      have hi' : i < m := by omega
      have sp := (each i hi').choose_spec.choose_spec
      obtain ⟨h1, h2, _, _⟩ := hall i hi'
      rw [addr_add] at h1 h2
      rw [sp.1] at h1
      rw [sp.2, ← Nat.add_assoc] at h2
      have ef : ((List.range len).map f)[i]'hi = f i := by simp
      rw [ef]
      exact ⟨by rw [h1]; simp [f, hi'], by rw [h2]; simp [f, hi']⟩

set_option maxRecDepth 100000 in
theorem sorts_lifted (os : Os) (started : os.Started) (H : Type) (enc : TypeId × Value → H) :
    ReturnsInHanded {} Try.checked os 7 .any (Rows.nameSortsSpec.pre6 enc Try.prog Try.f7 Rows.nameSortsRow.domain false) (Rows.nameSortsSpec.post enc Try.prog Try.f7 false true false false) := by
  refine returnsInHanded_of_change_sized (C := Try.checked) Try.own started (by kernel_rfl) Try.func7
    (ChangeSpec.witness6 (enc := enc) (C := Try.checked) false ⟨#[], #[.slice none 0 0, .int .i64 0], []⟩ 8 (by kernel_rfl) (by kernel_rfl) (by kernel_rfl) (by kernel_rfl)) ?_
  intro W base args ds gs _ hval0 hW _ hsz0 _
  have hsz : (DataW.weightsEach Try.prog (Try.f7.params.toList ++ Rows.nameSortsSpec.plain.varTypes Try.prog) (ds ++ gs)).all (· ≤ reachBytes) = true := hsz0
  clear hsz0
  have hval : ∀ (j : Nat) t v, Try.f7.params[j]? = some t → args[j]? = some v → Value.okWide Try.prog W .any base t v := hval0
  have hW' := hW
  obtain ⟨p, q, hA0, hV, rfl, hfz, hnd⟩ := hW
  have hA : DataW.TrodAll enc Try.prog W 0 (fun _ => true) true Try.f7.params.toList args.toList ds p := hA0
  rw [Try.params7] at hA hval hsz
  obtain ⟨v0, vs0, d0, ds0, p0, q0, hargs, rfl, rfl, h0, r0⟩ := trodAll_cons hA
  obtain ⟨v1, vs1, d1, ds1, p1, q1, rfl, rfl, rfl, h1, r1⟩ := trodAll_cons r0
  obtain ⟨rfl, rfl, rfl⟩ := trodAll_nil r1
  obtain rfl : args = #[v0, v1] := by cases args; simp_all
  obtain ⟨rfl, rfl⟩ := trodVars_none hV
  have k0 := h0
  have k1 := h1
  have lt0 : ∀ x ∈ p0, x.block < W.heap.size := by obtain ⟨m, hm⟩ := h0; exact DataW.trod_lt m _ _ _ hm
  have lt1 : ∀ x ∈ p1, x.block < W.heap.size := by obtain ⟨m, hm⟩ := h1; exact DataW.trod_lt m _ _ _ hm
  have hwalk : Calls Try.prog 7 #[v0, v1] W fun e w' => e = .returned (.bool true) ∧ Below W.heap.size W w' := by
    obtain ⟨turn, rfl, _, _, _⟩ := open_int Try.underlying3 (hval 1 3 v1 rfl rfl) h1
    rcases open_keysZ (hval 0 31 v0 rfl rfl) h0 with ⟨a, cap, rfl⟩ | ⟨b, off, cap, d, E, S, rfl, e1, e2, e3, e4, e5⟩
    · exact sorts_none a cap turn W
    · subst e3
      have hw := sized_slice hsz (j := 0) (t := 31) (e := 26) rfl rfl Try.underlying31
      rw [Try.bytes26, e4] at hw
      simp only [reachBytes] at hw
      exact sorts_any b off cap d turn W e1 e5 (by omega) e2
  clear hA0 hval0
  refine hwalk.mono fun o W' ⟨he, bel⟩ => ?_
  subst he
  exact ⟨_, rfl, _, _, _, [], _, [], hW', trodAll_mk1 (shut_bool Try.underlying4 _),
    (trodAll_cons_mk (Below.trod Try.laidOut (by kernel_rfl) (of_decide_eq_true (by kernel_rfl)) k0 bel lt0)
      (trodAll_cons_mk (Below.trod Try.laidOut (by kernel_rfl) (of_decide_eq_true (by kernel_rfl)) k1 bel lt1) trodAll_mk0)), rfl, bel.frame _, fun h => by cases h⟩

theorem namesorts_holds : Rows.NameSortsSaid :=
  OpenClaim.holds_of_wide 7 Try.f7 rfl rfl rfl rfl rfl rfl rfl ⟨rfl, rfl, rfl, rfl, rfl⟩ rfl rfl rfl rfl rfl (by kernel_rfl) Try.func7 (by kernel_rfl)
    (of_decide_eq_true (by kernel_rfl)) (by unfold Func.isWrapper; first | (rw [if_pos (by decide +kernel)]; kernel_rfl) | (rw [if_neg (by decide +kernel)]; exact ⟨rfl, rfl⟩))
    (fun os started H enc _ => sorts_lifted os started H enc)

end Go.Proofs.Ytgpeaepmkincaaa
