/-
  For every number, order and value the Go function StoreFirst of package foliolaw15 returns true, and its arguments read behind the call as they read before; no condition.
-/
import Derived.Test.YtmhlcnmfbolgdaaGreatRows
import Derived.Test.YtmhlcnmfbolgdaaGreatPh
import Derived.Test.YtmhlcnmfbolgdaaGreatPi
namespace Go.Proofs.YtmhlcnmfbolgdaaGreat
open Go.ChangeShapes Go.WideShapes Go.ChangeAt Go.RowKit Go.Joins

set_option maxRecDepth 100000 in
theorem storefirst_walked {H : Type} {enc : TypeId × Value → H} (W : World) (base : Nat) (args : Array Value) (ds gs : List (DataW H)) (before : List MemPlace)
    (hval : ∀ (j : Nat) t v, Tryz.f5.params[j]? = some t → args[j]? = some v → Value.okWide Tryz.prog W .any base t v)
    (hW : DataW.Whole enc Tryz.prog Tryz.f5.params.toList Rows.storeFirstSpec.vars false W args.toList ds gs before)
    (hZ : (DataW.weightsEach Tryz.prog (Tryz.f5.params.toList ++ (OpenSpec.ofChange Rows.storeFirstSpec).bare.plain.varTypes Tryz.prog) (ds ++ gs)).all (· ≤ reachBytes) = true) :
    Calls Tryz.prog 5 args W fun e W' => ∃ v, e = .returned v ∧ Rows.storeFirstSpec.post enc Tryz.prog Tryz.f5 false true false false W args v W' := by
  have hW' := hW
  obtain ⟨p, q, hA0, hV, rfl, _, _⟩ := hW
  have hA : DataW.TrodAll enc Tryz.prog W 0 (fun _ => true) true Tryz.f5.params.toList args.toList ds p := hA0
  rw [Tryz.params5] at hA hval hZ
  obtain ⟨v0, vs0, d0, ds0, p0, q0, hargs, rfl, rfl, h0, r0⟩ := trodAll_cons hA
  obtain ⟨v1, vs1, d1, ds1, p1, q1, rfl, rfl, rfl, h1, r1⟩ := trodAll_cons r0
  obtain ⟨v2, vs2, d2, ds2, p2, q2, rfl, rfl, rfl, h2, r2⟩ := trodAll_cons r1
  obtain ⟨rfl, rfl, rfl⟩ := trodAll_nil r2
  obtain rfl : args = #[v0, v1, v2] := by cases args; simp_all
  obtain ⟨rfl, rfl⟩ := trodVars_none hV
  have lt0 : ∀ x ∈ p0, x.block < W.heap.size := by obtain ⟨m, hm⟩ := h0; exact DataW.trod_lt m _ _ _ hm
  have lt1 : ∀ x ∈ p1, x.block < W.heap.size := by obtain ⟨m, hm⟩ := h1; exact DataW.trod_lt m _ _ _ hm
  have lt2 : ∀ x ∈ p2, x.block < W.heap.size := by obtain ⟨m, hm⟩ := h2; exact DataW.trod_lt m _ _ _ hm
  have k0 := h0
  have k1 := h1
  have k2 := h2
  have hwalk : Calls Tryz.prog 5 #[v0, v1, v2] W fun e w' => e = .returned (.bool true) ∧ Below W.heap.size W w' := by
    have z1 : ∀ n ∈ d1.weights Tryz.prog 75, n ≤ reachBytes := fun n hn => by
      have := List.all_eq_true.1 hZ n (DataW.weights_mem_each (j := 1) rfl rfl n hn)
      simpa using this
    have z2 : ∀ n ∈ d2.weights Tryz.prog 40, n ≤ reachBytes := fun n hn => by
      have := List.all_eq_true.1 hZ n (DataW.weights_mem_each (j := 2) rfl rfl n hn)
      simpa using this
    obtain ⟨n, rfl, hn⟩ := open_u8V (hval 0 5 v0 rfl rfl) h0
    obtain ⟨ord, ho, hob, hol⟩ := open_u8sV (hval 1 75 v1 rfl rfl) h1 z1
    obtain ⟨p1', c1', rfl, _⟩ := id ho
    obtain ⟨o, hv2, hf2, _⟩ := open_fieldsZ (hval 2 40 v2 rfl rfl) h2 z2
    obtain ⟨p2', c2', rfl, _⟩ := id hv2
    exact first15_any W n hn p1' c1' ord ho hob hol p2' c2' o hv2 hf2
  clear hA0
  refine hwalk.mono fun o W' ⟨he, bel⟩ => ?_
  subst he
  exact ⟨_, rfl, _, _, _, [], _, [], hW', trodAll_mk1 (shut_bool Tryz.underlying4 _),
    (trodAll_cons_mk (Below.trod Tryz.laidOut (by kernel_rfl) (of_decide_eq_true (by kernel_rfl)) k0 bel lt0) (trodAll_cons_mk (Below.trod Tryz.laidOut (by kernel_rfl) (of_decide_eq_true (by kernel_rfl)) k1 bel lt1) (trodAll_cons_mk (Below.trod Tryz.laidOut (by kernel_rfl) (of_decide_eq_true (by kernel_rfl)) k2 bel lt2) trodAll_mk0))), rfl, bel.frame _, fun h => by cases h⟩

set_option maxRecDepth 100000 in
theorem storefirst_free (os : Os) (started : os.Started) (H : Type) (enc : TypeId × Value → H) :
    ReturnsInHanded {} Tryz.checked os 5 .any (Rows.storeFirstSpec.pre6 enc Tryz.prog Tryz.f5 Rows.storeFirstRow.domain false) (Rows.storeFirstSpec.post enc Tryz.prog Tryz.f5 false true false false) := by
  refine returnsInHanded_of_change_sized (C := Tryz.checked) Tryz.own started (by kernel_rfl) Tryz.func5
    (ChangeSpec.witness6 (enc := enc) (C := Tryz.checked) false ⟨#[], #[.int .u8 0, .slice none 0 0, .slice none 0 0], []⟩ 8 (by kernel_rfl) (by kernel_rfl) (by kernel_rfl) (by kernel_rfl)) ?_
  intro W base args ds gs before hval hW _ hZ _
  exact storefirst_walked W base args ds gs before hval hW hZ

set_option maxRecDepth 100000 in
theorem closed_storeFirst : joinedFacts Tryz.pinned.checked.prog 5 Tryz.f5 Rows.storeFirstSpec Rows.storeFirstRow = true := by
  unfold joinedFacts
  refine and_storeFirst ?_ fact_storeFirst_31
  refine and_storeFirst ?_ fact_storeFirst_30
  refine and_storeFirst ?_ fact_storeFirst_29
  refine and_storeFirst ?_ fact_storeFirst_28
  refine and_storeFirst ?_ fact_storeFirst_27
  refine and_storeFirst ?_ fact_storeFirst_26
  refine and_storeFirst ?_ fact_storeFirst_25
  refine and_storeFirst ?_ fact_storeFirst_24
  refine and_storeFirst ?_ fact_storeFirst_23
  refine and_storeFirst ?_ fact_storeFirst_22
  refine and_storeFirst ?_ fact_storeFirst_21
  refine and_storeFirst ?_ fact_storeFirst_20
  refine and_storeFirst ?_ fact_storeFirst_19
  refine and_storeFirst ?_ fact_storeFirst_18
  refine and_storeFirst ?_ fact_storeFirst_17
  refine and_storeFirst ?_ fact_storeFirst_16
  refine and_storeFirst ?_ fact_storeFirst_15
  refine and_storeFirst ?_ fact_storeFirst_14
  refine and_storeFirst ?_ fact_storeFirst_13
  refine and_storeFirst ?_ fact_storeFirst_12
  refine and_storeFirst ?_ fact_storeFirst_11
  refine and_storeFirst ?_ fact_storeFirst_10
  refine and_storeFirst ?_ fact_storeFirst_9
  refine and_storeFirst ?_ fact_storeFirst_8
  refine and_storeFirst ?_ fact_storeFirst_7
  refine and_storeFirst ?_ fact_storeFirst_6
  refine and_storeFirst ?_ fact_storeFirst_5
  refine and_storeFirst ?_ fact_storeFirst_4
  refine and_storeFirst ?_ fact_storeFirst_3
  refine and_storeFirst ?_ fact_storeFirst_2
  refine and_storeFirst ?_ fact_storeFirst_1
  exact fact_storeFirst_0

theorem storefirst_holds : Rows.StoreFirstSaid :=
  OpenClaim.holds_of_wide 5 Tryz.f5 rfl rfl rfl rfl rfl rfl rfl ⟨rfl, rfl, rfl, rfl, rfl⟩ rfl rfl rfl rfl rfl (by kernel_rfl) Tryz.func5 closed_storeFirst
    (of_decide_eq_true (by kernel_rfl)) (by unfold Func.isWrapper; first | (rw [if_pos (by decide +kernel)]; kernel_rfl) | (rw [if_neg (by decide +kernel)]; exact ⟨rfl, rfl⟩))
    (fun os started H enc _ => storefirst_free os started H enc)

end Go.Proofs.YtmhlcnmfbolgdaaGreat
