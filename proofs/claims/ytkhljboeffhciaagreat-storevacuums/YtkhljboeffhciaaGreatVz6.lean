/-
  For every script and every stamp of bulk at most 1048576 the Go function StoreVacuums of package foliolaw15 returns true, and its arguments read behind the call as they read before.
-/
import Derived.Test.YtkhljboeffhciaaGreatPg
open Go.RowKit Go.Proofs.Tryz
namespace Go.Proofs.YtkhljboeffhciaaGreat
open Go.ChangeShapes Go.WideShapes Go.ChangeAt Go.RowKit Go.Joins

set_option maxRecDepth 100000 in
theorem dH {H : Type} {enc : TypeId × Value → H} (W : World) (base : Nat) (args : Array Value) (ds gs : List (DataW H)) (before : List MemPlace)
    (hval : ∀ (j : Nat) t v, Tryz.f6.params[j]? = some t → args[j]? = some v → Value.okWide prog W .any base t v)
    (hW : DataW.Whole enc prog Tryz.f6.params.toList Rows.storeVacuumsSpec.vars false W args.toList ds gs before)
    (hZ : (DataW.weightsEach prog (Tryz.f6.params.toList ++ (OpenSpec.ofChange Rows.storeVacuumsSpec).bare.plain.varTypes prog) (ds ++ gs)).all (· ≤ reachBytes) = true) (hk : Rows.uptoSmall H (ds ++ gs) = true):CC 6 args W fun e W' => ∃ v, e = .returned v ∧ Rows.storeVacuumsSpec.post enc prog Tryz.f6 false true false false W args v W' := by
  have hW' := hW
  obtain ⟨p, q, hA0, hV, rfl, _, _⟩ := hW
  have hA : DataW.TrodAll enc prog W 0 (fun _ => true) true Tryz.f6.params.toList args.toList ds p := hA0
  rw [Tryz.params6] at hA hval hZ
  obtain ⟨v0, vs0, d0, ds0, p0, q0, hargs, rfl, rfl, h0, r0⟩ := trodAll_cons hA
  obtain ⟨v1, vs1, d1, ds1, p1, q1, rfl, rfl, rfl, h1, r1⟩ := trodAll_cons r0
  obtain ⟨rfl, rfl, rfl⟩ := trodAll_nil r1
  obtain rfl : args = #[v0, v1] := by cases args; simp_all
  obtain ⟨rfl, rfl⟩ := trodVars_none hV
  have lt0 : ∀ x ∈ p0, x.block < W.heap.size := by obtain ⟨m, hm⟩ := h0; exact DataW.trod_lt m _ _ _ hm
  have lt1 : ∀ x ∈ p1, x.block < W.heap.size := by obtain ⟨m, hm⟩ := h1; exact DataW.trod_lt m _ _ _ hm
  have k0 := h0
  have k1 := h1
  have hb : Rows.uptoBulk d0 + Rows.uptoBulk d1 ≤ 1048576 := by
    have := xaM hk
    simp only [xbL, Rows.uptoBulkAll] at this
    omega
  have hwalk : CC 6 #[v0, v1] W fun e w' => e = .returned (.bool true) ∧ Below W.heap.size W w' := by
    have z0 : ∀ n ∈ d0.weights prog 22, n ≤ reachBytes := fun n hn => by
      have := List.all_eq_true.1 hZ n (DataW.weights_mem_each (j := 0) rfl rfl n hn)
      simpa using this
    obtain ⟨os, hx0, ho0, hl0⟩ := zLF (hval 0 22 v0 rfl rfl) h0 z0
    obtain ⟨p0', c0', rfl, _⟩ := id hx0
    obtain ⟨t, rfl, t0, t1⟩ := zLI (hval 1 24 v1 rfl rfl) h1
    exact zJO W p0' c0' os hx0 ho0 (by omega) t t0 t1
  clear hA0
  refine hwalk.mono fun o W' ⟨he, bel⟩ => ?_
  subst he
  exact ⟨_, rfl, _, _, _, [], _, [], hW', trodAll_mk1 (shut_bool underlying4 _),
    (trodAll_cons_mk (Below.trod Tryz.laidOut (by kernel_rfl) (xaM (by kernel_rfl)) k0 bel lt0) (trodAll_cons_mk (Below.trod Tryz.laidOut (by kernel_rfl) (xaM (by kernel_rfl)) k1 bel lt1) trodAll_mk0)), rfl, bel.frame _, fun h => by cases h⟩

theorem bG (os : Os) {H : Type} (enc : TypeId × Value → H) : ∃ places, DataW.whole enc prog ((World.laidAll prog os []).forCall (fun _ _ => 0) ⟨#[], #[.slice none 0 0, .int .u64 0], []⟩).memory Tryz.f6.params.toList Rows.storeVacuumsSpec.vars false #[Value.slice none 0 0, Value.int .u64 0].toList 8 = some ([.nil, .lit (.int .u64 0)], [], places) :=
  ⟨[], by kernel_rfl⟩

set_option maxRecDepth 100000 in
theorem dM (os : Os) (started : os.Started) (H : Type) (enc : TypeId × Value → H) (F : Stop.Interp):ReturnsInHanded {} Tryz.checked os 6 .any ((Rows.OpenSpec.upto Rows.storeVacuumsSpec).preRow enc prog Tryz.f6 Rows.storeVacuumsUptoRow.domain false Rows.storeVacuumsUptoRow.laid) (((Rows.OpenSpec.upto Rows.storeVacuumsSpec).at F).post enc prog Tryz.f6 false true false false) := by
  obtain ⟨places, hx⟩ := bG os enc
  refine returnsInHanded_of_row (C := Tryz.checked) (s := Rows.OpenSpec.upto Rows.storeVacuumsSpec) Tryz.own started (by kernel_rfl) func6
    (witness_row_at (enc := enc) (C := Tryz.checked) false (World.laidAll prog os []) #[.slice none 0 0, .int .u64 0] (World.laidAll_os _ _ _) (by kernel_rfl) (by kernel_rfl) (by kernel_rfl)
      (OpenSpec.preRow_of_cond 8 hx (by kernel_rfl) (fun k hk => by cases hk; kernel_rfl) (by kernel_rfl)
        (by rw [MakeChecks.laidMetH_plain _ _ _ (by kernel_rfl)]; exact laidMet_laidAll (laid := []) _ (by kernel_rfl) (by kernel_rfl)))) ?_
  intro W base args ds gs before hval hW _ hcond hZ _ _ _
  exact dH W base args ds gs before hval hW hZ (hcond _ rfl)

set_option maxRecDepth 100000 in
theorem dQ : joinedFacts Tryz.pinned.checked.prog 6 Tryz.f6 (Rows.OpenSpec.upto Rows.storeVacuumsSpec).bare Rows.storeVacuumsUptoRow = true := by
  unfold joinedFacts
  refine zK ?_ gD
  refine zK ?_ fI
  refine zK ?_ kO
  refine zK ?_ gP
  refine zK ?_ kM
  refine zK ?_ kQ
  refine zK ?_ gM
  refine zK ?_ kV
  refine zK ?_ gS
  refine zK ?_ gV
  refine zK ?_ kP
  refine zK ?_ kZ
  refine zK ?_ gT
  refine zK ?_ kX
  refine zK ?_ fC
  refine zK ?_ gB
  refine zK ?_ gU
  refine zK ?_ gI
  refine zK ?_ fH
  refine zK ?_ kT
  refine zK ?_ fB
  refine zK ?_ kS
  refine zK ?_ dO
  refine zK ?_ dT
  refine zK ?_ dS
  refine zK ?_ dR
  refine zK ?_ dP
  refine zK ?_ dN
  refine zK ?_ dL
  refine zK ?_ dG
  refine zK ?_ dI
  exact dJ

theorem storevacuums_holds : Rows.StoreVacuumsUptoSaid :=
  OpenClaim.holds_of_cond 6 Tryz.f6 rfl rfl rfl rfl rfl rfl rfl ⟨rfl, rfl, rfl, rfl, rfl⟩ rfl rfl rfl rfl rfl (by kernel_rfl) func6 dQ
    (xaM (by kernel_rfl)) (by unfold Func.isWrapper; first | (rw [xae (by decide +kernel)]; kernel_rfl) | (rw [xag (by decide +kernel)]; exact ⟨rfl, rfl⟩))
    (fun os started H enc _ F => by rw [OpenClaim.pre_eq_preRow]; exact dM os started H enc F)

end Go.Proofs.YtkhljboeffhciaaGreat
