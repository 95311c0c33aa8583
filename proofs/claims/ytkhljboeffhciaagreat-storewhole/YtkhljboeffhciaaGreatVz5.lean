/-
  For every scripts and way of bulk at most 1048576 the Go function StoreWhole of package foliolaw15 returns true, and its arguments read behind the call as they read before.
-/
import Derived.Test.YtkhljboeffhciaaGreatPg
open Go.RowKit Go.Proofs.Tryz
namespace Go.Proofs.YtkhljboeffhciaaGreat
open Go.ChangeShapes Go.WideShapes Go.ChangeAt Go.RowKit Go.Joins

set_option maxRecDepth 100000 in
theorem bJ {H : Type} {enc : TypeId × Value → H} (W : World) (base : Nat) (args : Array Value) (ds gs : List (DataW H)) (before : List MemPlace)
    (hval : ∀ (j : Nat) t v, Tryz.f4.params[j]? = some t → args[j]? = some v → Value.okWide prog W .any base t v)
    (hW : DataW.Whole enc prog Tryz.f4.params.toList Rows.storeWholeSpec.vars false W args.toList ds gs before)
    (hZ : (DataW.weightsEach prog (Tryz.f4.params.toList ++ (OpenSpec.ofChange Rows.storeWholeSpec).bare.plain.varTypes prog) (ds ++ gs)).all (· ≤ reachBytes) = true) (hk : Rows.uptoSmall H (ds ++ gs) = true):CC 4 args W fun e W' => ∃ v, e = .returned v ∧ Rows.storeWholeSpec.post enc prog Tryz.f4 false true false false W args v W' := by
  have hW' := hW
  obtain ⟨p, q, hA0, hV, rfl, _, _⟩ := hW
  have hA : DataW.TrodAll enc prog W 0 (fun _ => true) true Tryz.f4.params.toList args.toList ds p := hA0
  rw [Tryz.params4] at hA hval hZ
  obtain ⟨v0, vs0, d0, ds0, p0, q0, hargs, rfl, rfl, h0, r0⟩ := trodAll_cons hA
  obtain ⟨v1, vs1, d1, ds1, p1, q1, rfl, rfl, rfl, h1, r1⟩ := trodAll_cons r0
  obtain ⟨v2, vs2, d2, ds2, p2, q2, rfl, rfl, rfl, h2, r2⟩ := trodAll_cons r1
  obtain ⟨rfl, rfl, rfl⟩ := trodAll_nil r2
  obtain rfl : args = #[v0, v1, v2] := by cases args; simp_all
  obtain ⟨rfl, rfl⟩ := trodVars_none hV
  have lt0 : ∀ x ∈ p0, x.block < W.heap.size := by obtain ⟨m, hm⟩ := h0; exact DataW.trod_lt m _ _ _ hm
  have lt1 : ∀ x ∈ p1, x.block < W.heap.size := by obtain ⟨m, hm⟩ := h1; exact DataW.trod_lt m _ _ _ hm
  have lt2 : ∀ x ∈ p2, x.block < W.heap.size := by obtain ⟨m, hm⟩ := h2; exact DataW.trod_lt m _ _ _ hm
  have k0 := h0
  have k1 := h1
  have k2 := h2
  have hb : Rows.uptoBulk d0 + Rows.uptoBulk d1 + Rows.uptoBulk d2 ≤ 1048576 := by
    have := xaM hk
    simp only [xbL, Rows.uptoBulkAll] at this
    omega
  have hwalk : CC 4 #[v0, v1, v2] W fun e w' => e = .returned (.bool true) ∧ Below W.heap.size W w' := by
    have z0 : ∀ n ∈ d0.weights prog 22, n ≤ reachBytes := fun n hn => by
      have := List.all_eq_true.1 hZ n (DataW.weights_mem_each (j := 0) rfl rfl n hn)
      simpa using this
    have z1 : ∀ n ∈ d1.weights prog 22, n ≤ reachBytes := fun n hn => by
      have := List.all_eq_true.1 hZ n (DataW.weights_mem_each (j := 1) rfl rfl n hn)
      simpa using this
    obtain ⟨os, hx0, ho0, hl0⟩ := zE3 (hval 0 22 v0 rfl rfl) h0 z0
    obtain ⟨p0', c0', rfl, _⟩ := id hx0
    obtain ⟨ms, hx1, ho1, hl1⟩ := zE3 (hval 1 22 v1 rfl rfl) h1 z1
    obtain ⟨p1', c1', rfl, _⟩ := id hx1
    obtain ⟨gv, rfl⟩ := okWide_bool underlying4 (hval 2 4 v2 rfl rfl)
    exact zHY W gv p0' c0' os hx0 ho0 (by omega) p1' c1' ms hx1 ho1 (by omega)
  clear hA0
  refine hwalk.mono fun o W' ⟨he, bel⟩ => ?_
  subst he
  exact ⟨_, rfl, _, _, _, [], _, [], hW', trodAll_mk1 (shut_bool underlying4 _),
    (trodAll_cons_mk (Below.trod Tryz.laidOut (by kernel_rfl) (xaM (by kernel_rfl)) k0 bel lt0) (trodAll_cons_mk (Below.trod Tryz.laidOut (by kernel_rfl) (xaM (by kernel_rfl)) k1 bel lt1) (trodAll_cons_mk (Below.trod Tryz.laidOut (by kernel_rfl) (xaM (by kernel_rfl)) k2 bel lt2) trodAll_mk0))), rfl, bel.frame _, fun h => by cases h⟩

theorem zBD (os : Os) {H : Type} (enc : TypeId × Value → H) : ∃ places, DataW.whole enc prog ((World.laidAll prog os []).forCall (fun _ _ => 0) ⟨#[], #[.slice none 0 0, .slice none 0 0, .bool false], []⟩).memory Tryz.f4.params.toList Rows.storeWholeSpec.vars false #[Value.slice none 0 0, Value.slice none 0 0, Value.bool false].toList 8 = some ([.nil, .nil, .lit (.bool false)], [], places) :=
  ⟨[], by kernel_rfl⟩

set_option maxRecDepth 100000 in
theorem zAL (os : Os) (started : os.Started) (H : Type) (enc : TypeId × Value → H) (F : Stop.Interp):ReturnsInHanded {} Tryz.checked os 4 .any ((Rows.OpenSpec.upto Rows.storeWholeSpec).preRow enc prog Tryz.f4 Rows.storeWholeUptoRow.domain false Rows.storeWholeUptoRow.laid) (((Rows.OpenSpec.upto Rows.storeWholeSpec).at F).post enc prog Tryz.f4 false true false false) := by
  obtain ⟨places, hx⟩ := zBD os enc
  refine returnsInHanded_of_row (C := Tryz.checked) (s := Rows.OpenSpec.upto Rows.storeWholeSpec) Tryz.own started (by kernel_rfl) func4
    (witness_row_at (enc := enc) (C := Tryz.checked) false (World.laidAll prog os []) #[.slice none 0 0, .slice none 0 0, .bool false] (World.laidAll_os _ _ _) (by kernel_rfl) (by kernel_rfl) (by kernel_rfl)
      (OpenSpec.preRow_of_cond 8 hx (by kernel_rfl) (fun k hk => by cases hk; kernel_rfl) (by kernel_rfl)
        (by rw [MakeChecks.laidMetH_plain _ _ _ (by kernel_rfl)]; exact laidMet_laidAll (laid := []) _ (by kernel_rfl) (by kernel_rfl)))) ?_
  intro W base args ds gs before hval hW _ hcond hZ _ _ _
  exact bJ W base args ds gs before hval hW hZ (hcond _ rfl)

set_option maxRecDepth 100000 in
theorem bL : joinedFacts Tryz.pinned.checked.prog 4 Tryz.f4 (Rows.OpenSpec.upto Rows.storeWholeSpec).bare Rows.storeWholeUptoRow = true := by
  unfold joinedFacts
  refine zN ?_ cJ
  refine zN ?_ cH
  refine zN ?_ dZ
  refine zN ?_ cI
  refine zN ?_ dW
  refine zN ?_ dT
  refine zN ?_ dL
  refine zN ?_ cT
  refine zN ?_ dJ
  refine zN ?_ dR
  refine zN ?_ dN
  refine zN ?_ cA
  refine zN ?_ dQ
  refine zN ?_ dB
  refine zN ?_ cM
  refine zN ?_ fY
  refine zN ?_ dP
  refine zN ?_ cS
  refine zN ?_ dG
  refine zN ?_ dM
  refine zN ?_ dU
  refine zN ?_ fX
  refine zN ?_ bU
  refine zN ?_ zAE
  refine zN ?_ bD
  refine zN ?_ zA0
  refine zN ?_ zAV
  refine zN ?_ zAN
  refine zN ?_ bS
  refine zN ?_ bB
  refine zN ?_ bQ
  exact cV

theorem storewhole_holds : Rows.StoreWholeUptoSaid :=
  OpenClaim.holds_of_cond 4 Tryz.f4 rfl rfl rfl rfl rfl rfl rfl ⟨rfl, rfl, rfl, rfl, rfl⟩ rfl rfl rfl rfl rfl (by kernel_rfl) func4 bL
    (xaM (by kernel_rfl)) (by unfold Func.isWrapper; first | (rw [xae (by decide +kernel)]; kernel_rfl) | (rw [xag (by decide +kernel)]; exact ⟨rfl, rfl⟩))
    (fun os started H enc _ F => by rw [OpenClaim.pre_eq_preRow]; exact zAL os started H enc F)

end Go.Proofs.YtkhljboeffhciaaGreat
