/-
  For every key and every text the Go function NameBack of package foliolaw02 returns true, and each argument reads behind the call as it read before; no condition.
-/
import Derived.Test.YtgpeaepmkincaaaBase
import Derived.Test.YtgpeaepmkincaaaBack
namespace Go.Proofs.Ytgpeaepmkincaaa
open Go.ChangeShapes Go.WideShapes Go.ChangeAt Go.RowKit Go.Joins
open Go.ChangeMaps (open_string shut_string)

theorem back_any (a b s : ByteArray) (w : World) (ha : a.size ≤ maxLen) (hb : b.size ≤ maxLen) (hs : s.size ≤ maxLen) :
    Calls Try.prog 5 #[.agg #[.string a, .string b], .string s] w fun o w' => o = .returned (.bool true) ∧ Below w.heap.size w w' := by
  have m32 : ∀ n : Nat, n ≤ 32 → n ≤ maxLen := fun n h => by unfold maxLen; omega
  cases hk : keyB a b with
  | true =>
    obtain ⟨s1, s2⟩ := keyB_sizes hk
    have pr : PrintGives a b (a ++ ⟨#[47]⟩ ++ b) 0 := fun W => print_yes a b W ha hb s1 s2 hk
    have pa : ParseGives (a ++ ⟨#[47]⟩ ++ b) a b 0 := fun W => parse_back a b W hk
    rcases parse_any s hs with ⟨x, y, kx, e, ps⟩ | ps
    · obtain ⟨x1, y1⟩ := keyB_sizes kx
      refine back_ty a b s _ x y w ha hb hk pr pa ps ?_ (keyB_parts kx).1 (keyB_parts kx).2 (m32 _ x1) (m32 _ y1)
      rw [e]
      exact fun W => print_yes x y W (m32 _ x1) (m32 _ y1) x1 y1 kx
    · exact back_tn a b s _ w ha hb hk pr pa ps
  | false =>
    have pr : PrintGives a b ⟨#[]⟩ 2 := fun W => print_no a b W ha hb hk
    rcases parse_any s hs with ⟨x, y, kx, e, ps⟩ | ps
    · obtain ⟨x1, y1⟩ := keyB_sizes kx
      refine back_fy a b s x y w ha hb hk pr ps ?_ (keyB_parts kx).1 (keyB_parts kx).2 (m32 _ x1) (m32 _ y1)
      rw [e]
      exact fun W => print_yes x y W (m32 _ x1) (m32 _ y1) x1 y1 kx
    · exact back_fn a b s w ha hb hk pr ps

set_option maxRecDepth 100000 in
theorem back_lifted (os : Os) (started : os.Started) (H : Type) (enc : TypeId × Value → H) :
    ReturnsInHanded {} Try.checked os 5 .any (Rows.nameBackSpec.pre6 enc Try.prog Try.f5 Rows.nameBackRow.domain false) (Rows.nameBackSpec.post enc Try.prog Try.f5 false true false false) := by
  refine returnsInHanded_of_change (C := Try.checked) Try.own started (by kernel_rfl) Try.func5
    (ChangeSpec.witness6 (enc := enc) (C := Try.checked) false ⟨#[], #[.agg #[.string ⟨#[]⟩, .string ⟨#[]⟩], .string ⟨#[]⟩], []⟩ 8 (by kernel_rfl) (by kernel_rfl) (by kernel_rfl) (by kernel_rfl)) ?_
  intro W base args ds gs _ hval0 hW hcnd _
  have hval : ∀ (j : Nat) t v, Try.f5.params[j]? = some t → args[j]? = some v → Value.okWide Try.prog W .any base t v := hval0
  have hW' := hW
  obtain ⟨p, q, hA0, hV, rfl, hfz, hnd⟩ := hW
  have hA : DataW.TrodAll enc Try.prog W 0 (fun _ => true) true Try.f5.params.toList args.toList ds p := hA0
  rw [Try.params5] at hA hval
  obtain ⟨v0, vs0, d0, ds0, p0, q0, hargs, rfl, rfl, h0, r0⟩ := trodAll_cons hA
  obtain ⟨v1, vs1, d1, ds1, p1, q1, rfl, rfl, rfl, h1, r1⟩ := trodAll_cons r0
  obtain ⟨rfl, rfl, rfl⟩ := trodAll_nil r1
  obtain rfl : args = #[v0, v1] := by cases args; simp_all
  obtain ⟨rfl, rfl⟩ := trodVars_none hV
  have k1 := h1
  have lt0 : ∀ x ∈ p0, x.block < W.heap.size := by obtain ⟨m, hm⟩ := h0; exact DataW.trod_lt m _ _ _ hm
  have lt1 : ∀ x ∈ p1, x.block < W.heap.size := by obtain ⟨m, hm⟩ := h1; exact DataW.trod_lt m _ _ _ hm
  have hwalk : Calls Try.prog 5 #[v0, v1] W fun e w' => e = .returned (.bool true) ∧ Below W.heap.size W w' := by
    obtain ⟨a, b, rfl, ha, hb⟩ := open_key (hval 0 26 v0 rfl rfl) h0
    obtain ⟨s, rfl, _, _, hs⟩ := open_string Try.underlying9 (hval 1 9 v1 rfl rfl) h1
    exact back_any a b s W ha hb hs
  clear hA0 hval0
  refine hwalk.mono fun o W' ⟨he, bel⟩ => ?_
  subst he
  exact ⟨_, rfl, _, _, _, [], _, [], hW', trodAll_mk1 (shut_bool Try.underlying4 _),
    (trodAll_cons_mk (Below.trod Try.laidOut (by kernel_rfl) (of_decide_eq_true (by kernel_rfl)) h0 bel lt0)
      (trodAll_cons_mk (Below.trod Try.laidOut (by kernel_rfl) (of_decide_eq_true (by kernel_rfl)) k1 bel lt1) trodAll_mk0)), rfl, bel.frame _, fun h => by cases h⟩

theorem nameback_holds : Rows.NameBackSaid :=
  OpenClaim.holds_of_wide 5 Try.f5 rfl rfl rfl rfl rfl rfl rfl ⟨rfl, rfl, rfl, rfl, rfl⟩ rfl rfl rfl rfl rfl (by kernel_rfl) Try.func5 (by kernel_rfl)
    (of_decide_eq_true (by kernel_rfl)) (by unfold Func.isWrapper; first | (rw [if_pos (by decide +kernel)]; kernel_rfl) | (rw [if_neg (by decide +kernel)]; exact ⟨rfl, rfl⟩))
    (fun os started H enc _ => back_lifted os started H enc)

end Go.Proofs.Ytgpeaepmkincaaa
