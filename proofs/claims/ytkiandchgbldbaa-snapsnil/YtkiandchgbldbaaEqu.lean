/-
  The contracts of sameField, slices.EqualFunc over it, Equal, slices.Clone of texts, and Texts.
-/
import Derived.Test.YtkiandchgbldbaaMay
import Derived.Test.YtkiandchgbldbaaDec1
import Derived.Lib.Strings
namespace Go.Proofs.Ytkiandchgbldbaa
open Go.RowKit

theorem toList_eq (a b : ByteArray) : (a.toList == b.toList) = decide (a = b) := by
  rw [Bool.eq_iff_iff]
  simp only [beq_iff_eq, decide_eq_true_eq]
  constructor
  · intro h
    rw [Lib.toList_data, Lib.toList_data] at h
    obtain ⟨⟨l⟩⟩ := a
    obtain ⟨⟨m⟩⟩ := b
    simp at h
    rw [h]
  · rintro rfl; rfl

end Go.Proofs.Ytkiandchgbldbaa
