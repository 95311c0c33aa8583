/-
  For every keys and ways the Go function StoreSkew of package foliolaw15 returns true, and its arguments read behind the call as they read before; no condition.
-/
import Derived.Test.YtmhlcnmfbolgdaaGreatRows
import Derived.Test.YtmhlcnmfbolgdaaGreatPi
import Derived.Test.YtmhlcnmfbolgdaaGreatPj
namespace Go.Proofs.YtmhlcnmfbolgdaaGreat
open Go.ChangeShapes Go.WideShapes Go.ChangeAt Go.RowKit Go.Joins

set_option maxRecDepth 100000 in
theorem storeskew_walked {H : Type} {enc : TypeId × Value → H} (W : World) (base : Nat) (args : Array Value) (ds gs : List (DataW H)) (before : List MemPlace)
    (hval : ∀ (j : Nat) t v, Tryz.f6.params[j]? = some t → args[j]? = some v → Value.okWide Tryz.prog W .any base t v)
    (hW : DataW.Whole enc Tryz.prog Tryz.f6.params.toList Rows.storeSkewSpec.vars false W args.toList ds gs before)
    (hZ : (DataW.weightsEach Tryz.prog (Tryz.f6.params.toList ++ (OpenSpec.ofChange Rows.storeSkewSpec).bare.plain.varTypes Tryz.prog) (ds ++ gs)).all (· ≤ reachBytes) = true) :
    Calls Tryz.prog 6 args W fun e W' => ∃ v, e = .returned v ∧ Rows.storeSkewSpec.post enc Tryz.prog Tryz.f6 false true false false W args v W' := by
  have hW' := hW
  obtain ⟨p, q, hA0, hV, rfl, _, _⟩ := hW
  have hA : DataW.TrodAll enc Tryz.prog W 0 (fun _ => true) true Tryz.f6.params.toList args.toList ds p := hA0
  rw [Tryz.params6] at hA hval hZ
  obtain ⟨v0, vs0, d0, ds0, p0, q0, hargs, rfl, rfl, h0, r0⟩ := trodAll_cons hA
  obtain ⟨v1, vs1, d1, ds1, p1, q1, rfl, rfl, rfl, h1, r1⟩ := trodAll_cons r0
  obtain ⟨v2, vs2, d2, ds2, p2, q2, rfl, rfl, rfl, h2, r2⟩ := trodAll_cons r1
  obtain ⟨rfl, rfl, rfl⟩ := trodAll_nil r2
  obtain rfl : args = #[v0, v1, v2] := by cases args; simp_all
  obtain ⟨rfl, rfl⟩ := trodVars_none hV
  have lt0 : ∀ x ∈ p0, x.block < W.heap.size := by obtain ⟨m, hm⟩ := h0; exact DataW.trod_lt m _ _ _ hm
  have lt1 : ∀ x ∈ p1, x.block < W.heap.size := by obtain ⟨m, hm⟩ := h1; exact DataW.trod_lt m _ _ _ hm
  have lt2 : ∀ x ∈ p2, x.block < W.heap.size := by obtain ⟨m, hm⟩ := h2; exact DataW.trod_lt m _ _ _ hm
  have k0 := h0
  have k1 := h1
  have k2 := h2
  have hwalk : Calls Tryz.prog 6 #[v0, v1, v2] W fun e w' => e = .returned (.bool true) ∧ Below W.heap.size W w' := by
    obtain ⟨a, rfl, ha⟩ := open_keyW (hval 0 39 v0 rfl rfl) h0
    obtain ⟨b, rfl, hb⟩ := open_keyW (hval 1 39 v1 rfl rfl) h1
    obtain ⟨h1', h2', rfl⟩ := open_b2V (hval 2 81 v2 rfl rfl) h2
    exact skew15_any W a ha b hb h1' h2'
  clear hA0
  refine hwalk.mono fun o W' ⟨he, bel⟩ => ?_
  subst he
  exact ⟨_, rfl, _, _, _, [], _, [], hW', trodAll_mk1 (shut_bool Tryz.underlying4 _),
    (trodAll_cons_mk (Below.trod Tryz.laidOut (by kernel_rfl) (of_decide_eq_true (by kernel_rfl)) k0 bel lt0) (trodAll_cons_mk (Below.trod Tryz.laidOut (by kernel_rfl) (of_decide_eq_true (by kernel_rfl)) k1 bel lt1) (trodAll_cons_mk (Below.trod Tryz.laidOut (by kernel_rfl) (of_decide_eq_true (by kernel_rfl)) k2 bel lt2) trodAll_mk0))), rfl, bel.frame _, fun h => by cases h⟩

set_option maxRecDepth 100000 in
theorem storeskew_free (os : Os) (started : os.Started) (H : Type) (enc : TypeId × Value → H) :
    ReturnsInHanded {} Tryz.checked os 6 .any (Rows.storeSkewSpec.pre6 enc Tryz.prog Tryz.f6 Rows.storeSkewRow.domain false) (Rows.storeSkewSpec.post enc Tryz.prog Tryz.f6 false true false false) := by
  refine returnsInHanded_of_change_sized (C := Tryz.checked) Tryz.own started (by kernel_rfl) Tryz.func6
    (ChangeSpec.witness6 (enc := enc) (C := Tryz.checked) false ⟨#[], #[.agg #[.string ⟨#[]⟩, .string ⟨#[]⟩], .agg #[.string ⟨#[]⟩, .string ⟨#[]⟩], .agg #[.bool false, .bool false]], []⟩ 8 (by kernel_rfl) (by kernel_rfl) (by kernel_rfl) (by kernel_rfl)) ?_
  intro W base args ds gs before hval hW _ hZ _
  exact storeskew_walked W base args ds gs before hval hW hZ

set_option maxRecDepth 100000 in
theorem closed_storeSkew : joinedFacts Tryz.pinned.checked.prog 6 Tryz.f6 Rows.storeSkewSpec Rows.storeSkewRow = true := by
  unfold joinedFacts
  refine and_storeSkew ?_ fact_storeSkew_31
  refine and_storeSkew ?_ fact_storeSkew_30
  refine and_storeSkew ?_ fact_storeSkew_29
  refine and_storeSkew ?_ fact_storeSkew_28
  refine and_storeSkew ?_ fact_storeSkew_27
  refine and_storeSkew ?_ fact_storeSkew_26
  refine and_storeSkew ?_ fact_storeSkew_25
  refine and_storeSkew ?_ fact_storeSkew_24
  refine and_storeSkew ?_ fact_storeSkew_23
  refine and_storeSkew ?_ fact_storeSkew_22
  refine and_storeSkew ?_ fact_storeSkew_21
  refine and_storeSkew ?_ fact_storeSkew_20
  refine and_storeSkew ?_ fact_storeSkew_19
  refine and_storeSkew ?_ fact_storeSkew_18
  refine and_storeSkew ?_ fact_storeSkew_17
  refine and_storeSkew ?_ fact_storeSkew_16
  refine and_storeSkew ?_ fact_storeSkew_15
  refine and_storeSkew ?_ fact_storeSkew_14
  refine and_storeSkew ?_ fact_storeSkew_13
  refine and_storeSkew ?_ fact_storeSkew_12
  refine and_storeSkew ?_ fact_storeSkew_11
  refine and_storeSkew ?_ fact_storeSkew_10
  refine and_storeSkew ?_ fact_storeSkew_9
  refine and_storeSkew ?_ fact_storeSkew_8
  refine and_storeSkew ?_ fact_storeSkew_7
  refine and_storeSkew ?_ fact_storeSkew_6
  refine and_storeSkew ?_ fact_storeSkew_5
  refine and_storeSkew ?_ fact_storeSkew_4
  refine and_storeSkew ?_ fact_storeSkew_3
  refine and_storeSkew ?_ fact_storeSkew_2
  refine and_storeSkew ?_ fact_storeSkew_1
  exact fact_storeSkew_0

theorem storeskew_holds : Rows.StoreSkewSaid :=
  OpenClaim.holds_of_wide 6 Tryz.f6 rfl rfl rfl rfl rfl rfl rfl ⟨rfl, rfl, rfl, rfl, rfl⟩ rfl rfl rfl rfl rfl (by kernel_rfl) Tryz.func6 closed_storeSkew
    (of_decide_eq_true (by kernel_rfl)) (by unfold Func.isWrapper; first | (rw [if_pos (by decide +kernel)]; kernel_rfl) | (rw [if_neg (by decide +kernel)]; exact ⟨rfl, rfl⟩))
    (fun os started H enc _ => storeskew_free os started H enc)

end Go.Proofs.YtmhlcnmfbolgdaaGreat
