/-
  The contracts of spelled, and of the four words that stand on it.
-/
import Derived.Test.YtkiandchgbldbaaLeaf
namespace Go.Proofs.Ytkiandchgbldbaa
open Go.RowKit

theorem nat_pos {n : Nat} (h : ¬ (n : Int) < 1) : 0 < n := by omega

end Go.Proofs.Ytkiandchgbldbaa
