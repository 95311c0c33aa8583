/-
  For every keys and value of bulk at most 1048576 the Go function StoreOwn of package foliolaw15 returns true, and its arguments read behind the call as they read before.
-/
import Derived.Test.YtmhlcnmfbolgdaaGreatRows
import Derived.Test.YtmhlcnmfbolgdaaGreatPh
import Derived.Test.YtmhlcnmfbolgdaaGreatPi
namespace Go.Proofs.YtmhlcnmfbolgdaaGreat
open Go.ChangeShapes Go.WideShapes Go.ChangeAt Go.RowKit Go.Joins

set_option maxRecDepth 100000 in
theorem storeown_walked {H : Type} {enc : TypeId × Value → H} (W : World) (base : Nat) (args : Array Value) (ds gs : List (DataW H)) (before : List MemPlace)
    (hval : ∀ (j : Nat) t v, Tryz.f7.params[j]? = some t → args[j]? = some v → Value.okWide Tryz.prog W .any base t v)
    (hW : DataW.Whole enc Tryz.prog Tryz.f7.params.toList Rows.storeOwnSpec.vars false W args.toList ds gs before)
    (hZ : (DataW.weightsEach Tryz.prog (Tryz.f7.params.toList ++ (OpenSpec.ofChange Rows.storeOwnSpec).bare.plain.varTypes Tryz.prog) (ds ++ gs)).all (· ≤ reachBytes) = true) (hk : Rows.uptoSmall H (ds ++ gs) = true) :
    Calls Tryz.prog 7 args W fun e W' => ∃ v, e = .returned v ∧ Rows.storeOwnSpec.post enc Tryz.prog Tryz.f7 false true false false W args v W' := by
  have hW' := hW
  obtain ⟨p, q, hA0, hV, rfl, _, _⟩ := hW
  have hA : DataW.TrodAll enc Tryz.prog W 0 (fun _ => true) true Tryz.f7.params.toList args.toList ds p := hA0
  rw [Tryz.params7] at hA hval hZ
  obtain ⟨v0, vs0, d0, ds0, p0, q0, hargs, rfl, rfl, h0, r0⟩ := trodAll_cons hA
  obtain ⟨v1, vs1, d1, ds1, p1, q1, rfl, rfl, rfl, h1, r1⟩ := trodAll_cons r0
  obtain ⟨rfl, rfl, rfl⟩ := trodAll_nil r1
  obtain rfl : args = #[v0, v1] := by cases args; simp_all
  obtain ⟨rfl, rfl⟩ := trodVars_none hV
  have lt0 : ∀ x ∈ p0, x.block < W.heap.size := by obtain ⟨m, hm⟩ := h0; exact DataW.trod_lt m _ _ _ hm
  have lt1 : ∀ x ∈ p1, x.block < W.heap.size := by obtain ⟨m, hm⟩ := h1; exact DataW.trod_lt m _ _ _ hm
  have k0 := h0
  have k1 := h1
  have hb : Rows.uptoBulk d0 + Rows.uptoBulk d1 ≤ 1048576 := by
    have := of_decide_eq_true hk
    simp only [List.append_nil, Rows.uptoBulkAll] at this
    omega
  have hwalk : Calls Tryz.prog 7 #[v0, v1] W fun e w' => e = .returned (.bool true) ∧ Below W.heap.size W w' := by
    have z0 : ∀ n ∈ d0.weights Tryz.prog 50, n ≤ reachBytes := fun n hn => by
      have := List.all_eq_true.1 hZ n (DataW.weights_mem_each (j := 0) rfl rfl n hn)
      simpa using this
    have z1 : ∀ n ∈ d1.weights Tryz.prog 40, n ≤ reachBytes := fun n hn => by
      have := List.all_eq_true.1 hZ n (DataW.weights_mem_each (j := 1) rfl rfl n hn)
      simpa using this
    obtain ⟨ks, hk, hkf, hkb, _⟩ := open_keysM (hval 0 50 v0 rfl rfl) h0 z0
    obtain ⟨p0', c0', rfl, _⟩ := id hk
    obtain ⟨o, hv1, hf1, _⟩ := open_fieldsZ (hval 1 40 v1 rfl rfl) h1 z1
    obtain ⟨p1', c1', rfl, _⟩ := id hv1
    exact own15_any W p0' c0' ks hk hkf (by omega) p1' c1' o hv1 hf1
  clear hA0
  refine hwalk.mono fun o W' ⟨he, bel⟩ => ?_
  subst he
  exact ⟨_, rfl, _, _, _, [], _, [], hW', trodAll_mk1 (shut_bool Tryz.underlying4 _),
    (trodAll_cons_mk (Below.trod Tryz.laidOut (by kernel_rfl) (of_decide_eq_true (by kernel_rfl)) k0 bel lt0) (trodAll_cons_mk (Below.trod Tryz.laidOut (by kernel_rfl) (of_decide_eq_true (by kernel_rfl)) k1 bel lt1) trodAll_mk0)), rfl, bel.frame _, fun h => by cases h⟩

theorem storeown_reads (os : Os) {H : Type} (enc : TypeId × Value → H) : ∃ places, DataW.whole enc Tryz.prog ((World.laidAll Tryz.prog os []).forCall (fun _ _ => 0) ⟨#[], #[.slice none 0 0, .slice none 0 0], []⟩).memory Tryz.f7.params.toList Rows.storeOwnSpec.vars false #[Value.slice none 0 0, .slice none 0 0].toList 8 = some ([.nil, .nil], [], places) :=
  ⟨[], by kernel_rfl⟩

set_option maxRecDepth 100000 in
theorem storeown_lifted (os : Os) (started : os.Started) (H : Type) (enc : TypeId × Value → H) (F : Stop.Interp) :
    ReturnsInHanded {} Tryz.checked os 7 .any ((Rows.OpenSpec.upto Rows.storeOwnSpec).preRow enc Tryz.prog Tryz.f7 Rows.storeOwnUptoRow.domain false Rows.storeOwnUptoRow.laid) (((Rows.OpenSpec.upto Rows.storeOwnSpec).at F).post enc Tryz.prog Tryz.f7 false true false false) := by
  obtain ⟨places, hx⟩ := storeown_reads os enc
  refine returnsInHanded_of_row (C := Tryz.checked) (s := Rows.OpenSpec.upto Rows.storeOwnSpec) Tryz.own started (by kernel_rfl) Tryz.func7
    (witness_row_at (enc := enc) (C := Tryz.checked) false (World.laidAll Tryz.prog os []) #[.slice none 0 0, .slice none 0 0] (World.laidAll_os _ _ _) (by kernel_rfl) (by kernel_rfl) (by kernel_rfl)
      (OpenSpec.preRow_of_cond 8 hx (by kernel_rfl) (fun k hk => by cases hk; kernel_rfl) (by kernel_rfl)
        (by rw [MakeChecks.laidMetH_plain _ _ _ (by kernel_rfl)]; exact laidMet_laidAll (laid := []) _ (by kernel_rfl) (by kernel_rfl)))) ?_
  intro W base args ds gs before hval hW _ hcond hZ _ _ _
  exact storeown_walked W base args ds gs before hval hW hZ (hcond _ rfl)

set_option maxRecDepth 100000 in
theorem closed_storeOwn : joinedFacts Tryz.pinned.checked.prog 7 Tryz.f7 (Rows.OpenSpec.upto Rows.storeOwnSpec).bare Rows.storeOwnUptoRow = true := by
  unfold joinedFacts
  refine and_storeOwn ?_ fact_storeOwn_31
  refine and_storeOwn ?_ fact_storeOwn_30
  refine and_storeOwn ?_ fact_storeOwn_29
  refine and_storeOwn ?_ fact_storeOwn_28
  refine and_storeOwn ?_ fact_storeOwn_27
  refine and_storeOwn ?_ fact_storeOwn_26
  refine and_storeOwn ?_ fact_storeOwn_25
  refine and_storeOwn ?_ fact_storeOwn_24
  refine and_storeOwn ?_ fact_storeOwn_23
  refine and_storeOwn ?_ fact_storeOwn_22
  refine and_storeOwn ?_ fact_storeOwn_21
  refine and_storeOwn ?_ fact_storeOwn_20
  refine and_storeOwn ?_ fact_storeOwn_19
  refine and_storeOwn ?_ fact_storeOwn_18
  refine and_storeOwn ?_ fact_storeOwn_17
  refine and_storeOwn ?_ fact_storeOwn_16
  refine and_storeOwn ?_ fact_storeOwn_15
  refine and_storeOwn ?_ fact_storeOwn_14
  refine and_storeOwn ?_ fact_storeOwn_13
  refine and_storeOwn ?_ fact_storeOwn_12
  refine and_storeOwn ?_ fact_storeOwn_11
  refine and_storeOwn ?_ fact_storeOwn_10
  refine and_storeOwn ?_ fact_storeOwn_9
  refine and_storeOwn ?_ fact_storeOwn_8
  refine and_storeOwn ?_ fact_storeOwn_7
  refine and_storeOwn ?_ fact_storeOwn_6
  refine and_storeOwn ?_ fact_storeOwn_5
  refine and_storeOwn ?_ fact_storeOwn_4
  refine and_storeOwn ?_ fact_storeOwn_3
  refine and_storeOwn ?_ fact_storeOwn_2
  refine and_storeOwn ?_ fact_storeOwn_1
  exact fact_storeOwn_0

theorem storeown_holds : Rows.StoreOwnUptoSaid :=
  OpenClaim.holds_of_cond 7 Tryz.f7 rfl rfl rfl rfl rfl rfl rfl ⟨rfl, rfl, rfl, rfl, rfl⟩ rfl rfl rfl rfl rfl (by kernel_rfl) Tryz.func7 closed_storeOwn
    (of_decide_eq_true (by kernel_rfl)) (by unfold Func.isWrapper; first | (rw [if_pos (by decide +kernel)]; kernel_rfl) | (rw [if_neg (by decide +kernel)]; exact ⟨rfl, rfl⟩))
    (fun os started H enc _ F => by rw [OpenClaim.pre_eq_preRow]; exact storeown_lifted os started H enc F)

end Go.Proofs.YtmhlcnmfbolgdaaGreat
