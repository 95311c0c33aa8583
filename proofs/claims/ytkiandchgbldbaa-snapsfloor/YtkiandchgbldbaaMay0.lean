/-
  The contract of fits.
-/
import Derived.Test.YtkiandchgbldbaaFld
namespace Go.Proofs.Ytkiandchgbldbaa
open Go.RowKit

end Go.Proofs.Ytkiandchgbldbaa
