/-
  The contracts of SameTexts, SameFields and Same of the reference.
-/
import Derived.Test.YtkiandchgbldbaaFld
import Derived.Test.YtkiandchgbldbaaEqu
namespace Go.Proofs.Ytkiandchgbldbaa
open Go.RowKit

theorem str_ne {s t : ByteArray} (h : ¬ s = t) : (s.toList == t.toList) = false := by
  rw [Lib.toList_data, Lib.toList_data, beq_eq_false_iff_ne]
  intro e
  apply h
  obtain ⟨⟨s⟩⟩ := s
  obtain ⟨⟨t⟩⟩ := t
  simp at e
  rw [e]

theorem TxtAt.draws {w : World} {p : Option Addr} {ts : List ByteArray} (h : TxtAt w p ts) (n : Nat) : TxtAt (w.drewN n) p ts := h

end Go.Proofs.Ytkiandchgbldbaa
