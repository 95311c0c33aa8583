/-
  What stage 10's rows open their arguments by: operations, stamps, bytes, a stamp, an id.
-/
import Derived.Test.YtkiandchgbldbaaGop
import Derived.Test.YtkiandchgbldbaaQiw
import Derived.Test.YtkiandchgbldbaaQfw
import Derived.Test.YtkiandchgbldbaaQni
namespace Go.Proofs.Ytkiandchgbldbaa
open Go.ChangeShapes Go.WideShapes Go.ChangeAt Go.RowKit Go.Lib Go.Deep Go.Joins

theorem Try.own : ownKnob Try.prog.godebug = none := by kernel_rfl
theorem Try.laidOut : laidOutB Try.prog = true := by kernel_rfl
theorem Try.cellsOq : Try.prog.cellsOf 33 = 3 := by kernel_rfl
theorem Try.cellsOqI : Try.prog.cellsOf 3 = 1 := by kernel_rfl
theorem Try.cellsOqU : Try.prog.cellsOf 29 = 1 := by kernel_rfl
theorem Try.cellsOqB : Try.prog.cellsOf 5 = 1 := by kernel_rfl
theorem Try.bytesOq : Try.prog.bytesOf 33 = 24 := by kernel_rfl
theorem Try.bytesOqU : Try.prog.bytesOf 29 = 8 := by kernel_rfl
theorem Try.bytesOqB : Try.prog.bytesOf 5 = 1 := by kernel_rfl

set_option maxRecDepth 100000 in
theorem open_oq {H : Type} {enc : TypeId × Value → H} {W : World} (n : Nat) (cs : List Value) (x : DataW H × List MemPlace) (h : DataW.trod enc Try.prog W 0 (fun _ => true) true n 33 cs = some x) :
    ∃ b : Oq, cs = KOq.enc b ∧ MU.fit b.2.1 ∧ 0 ≤ b.2.2 ∧ b.2.2 ≤ 18446744073709551615 := by
  obtain ⟨xs, k, _, hx, hlen, hxl, hf⟩ := DataW.trod_struct Try.underlying33 h
  rw [Try.cellsOq] at hlen
  match cs, hlen with
  | [v0, v1, v2], _ =>
    match xs, hxl with
    | [y0, y1, y2], _ =>
      have g0 := hf 0 _ rfl
      have g1 := hf 1 _ rfl
      have g2 := hf 2 _ rfl
      simp [Try.cellsOqI, Try.cellsOqU] at g0 g1 g2
      obtain ⟨a, ea, _, ha⟩ := DataW.trod_int Try.underlying3 g0
      obtain ⟨i, ei, _, hi⟩ := DataW.trod_int Try.underlying3 g1
      obtain ⟨s, es, _, hs⟩ := DataW.trod_int Try.underlying29 g2
      simp only [List.cons.injEq, and_true] at ea ei es
      subst ea ei es
      have hws : 0 ≤ s ∧ s ≤ 18446744073709551615 := by
        have := hs
        simp [Lit.wf, IntKind.min, IntKind.max, IntKind.signed, IntKind.bits] at this
        omega
      exact ⟨(a, i, s), rfl, hi, hws⟩

theorem open_opsQ {H : Type} {enc : TypeId × Value → H} {W : World} {b0 : Nat} {v : Value} {dd : DataW H} {p : List MemPlace}
    (hv : Value.okWide Try.prog W .any b0 22 v) (h : DataW.Trod enc Try.prog W 0 (fun _ => true) true 22 v dd p) (hZ : ∀ n ∈ dd.weights Try.prog 22, n ≤ reachBytes) :
    ∃ q : List Oq, KOq.Is W v q ∧ (∀ x ∈ q, MU.fit x.2.1 ∧ 0 ≤ x.2.2 ∧ x.2.2 ≤ 18446744073709551615) ∧ q.length ≤ 16000000000000 := by
  obtain ⟨q, h1, h2, h3⟩ := open_rowK KOq Try.underlying22 Try.cellsOq Try.bytesOq (fun b => MU.fit b.2.1 ∧ 0 ≤ b.2.2 ∧ b.2.2 ≤ 18446744073709551615) open_oq hv h hZ
  exact ⟨q, h1, h2, by have := reachBytes_lt; omega⟩

theorem open_u64q {H : Type} {enc : TypeId × Value → H} {W : World} (n : Nat) (cs : List Value) (x : DataW H × List MemPlace) (h : DataW.trod enc Try.prog W 0 (fun _ => true) true n 29 cs = some x) : ∃ b : Int, cs = KS.enc b ∧ 0 ≤ b ∧ b ≤ 18446744073709551615 := by
  obtain ⟨s, rfl, _, hs⟩ := DataW.trod_int Try.underlying29 h
  refine ⟨s, rfl, ?_⟩
  simp [Lit.wf, IntKind.min, IntKind.max, IntKind.signed, IntKind.bits] at hs
  omega
theorem open_u8q {H : Type} {enc : TypeId × Value → H} {W : World} (n : Nat) (cs : List Value) (x : DataW H × List MemPlace) (h : DataW.trod enc Try.prog W 0 (fun _ => true) true n 5 cs = some x) : ∃ b : Int, cs = KY8.enc b ∧ 0 ≤ b ∧ b ≤ 255 := by
  obtain ⟨s, rfl, _, hs⟩ := DataW.trod_int Try.underlying5 h
  refine ⟨s, rfl, ?_⟩
  simp [Lit.wf, IntKind.min, IntKind.max, IntKind.signed, IntKind.bits] at hs
  omega

theorem open_u64sQ {H : Type} {enc : TypeId × Value → H} {W : World} {b0 : Nat} {v : Value} {dd : DataW H} {p : List MemPlace}
    (hv : Value.okWide Try.prog W .any b0 27 v) (h : DataW.Trod enc Try.prog W 0 (fun _ => true) true 27 v dd p) (hZ : ∀ n ∈ dd.weights Try.prog 27, n ≤ reachBytes) :
    ∃ q : List Int, KS.Is W v q ∧ (∀ x ∈ q, 0 ≤ x ∧ x ≤ 18446744073709551615) ∧ q.length ≤ 17592186044416 := by
  obtain ⟨q, h1, h2, h3⟩ := open_rowK KS Try.underlying27 Try.cellsOqU Try.bytesOqU (fun b => 0 ≤ b ∧ b ≤ 18446744073709551615) open_u64q hv h hZ
  exact ⟨q, h1, h2, by have := reachBytes_lt; omega⟩
theorem open_u8sQ {H : Type} {enc : TypeId × Value → H} {W : World} {b0 : Nat} {v : Value} {dd : DataW H} {p : List MemPlace}
    (hv : Value.okWide Try.prog W .any b0 49 v) (h : DataW.Trod enc Try.prog W 0 (fun _ => true) true 49 v dd p) (hZ : ∀ n ∈ dd.weights Try.prog 49, n ≤ reachBytes) :
    ∃ q : List Int, KY8.Is W v q ∧ ∀ x ∈ q, 0 ≤ x ∧ x ≤ 255 := by
  obtain ⟨q, h1, h2, _⟩ := open_rowK KY8 Try.underlying49 Try.cellsOqB Try.bytesOqB (fun b => 0 ≤ b ∧ b ≤ 255) open_u8q hv h hZ
  exact ⟨q, h1, h2⟩

theorem open_u64Q {H : Type} {enc : TypeId × Value → H} {W : World} {b0 : Nat} {v : Value} {d : DataW H} {p : List MemPlace}
    (hv : Value.okWide Try.prog W .any b0 29 v) (h : DataW.Trod enc Try.prog W 0 (fun _ => true) true 29 v d p) : ∃ t, v = .int .u64 t ∧ 0 ≤ t ∧ t ≤ 18446744073709551615 := by
  obtain ⟨n, rfl, _, _, hw⟩ := open_int Try.underlying29 hv h
  have hws : 0 ≤ n ∧ n ≤ 18446744073709551615 := by
    simp [Lit.wf, IntKind.min, IntKind.max, IntKind.signed, IntKind.bits] at hw
    omega
  exact ⟨n, rfl, hws.1, hws.2⟩
theorem open_intQ {H : Type} {enc : TypeId × Value → H} {W : World} {b0 : Nat} {v : Value} {d : DataW H} {p : List MemPlace}
    (hv : Value.okWide Try.prog W .any b0 3 v) (h : DataW.Trod enc Try.prog W 0 (fun _ => true) true 3 v d p) : ∃ t, v = .int .i64 t ∧ MU.fit t := by
  obtain ⟨n, rfl, _, _, hw⟩ := open_int Try.underlying3 hv h
  exact ⟨n, rfl, hw⟩

end Go.Proofs.Ytkiandchgbldbaa
