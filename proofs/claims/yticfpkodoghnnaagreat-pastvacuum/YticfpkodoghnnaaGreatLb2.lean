/-
  For every script and all questions the Go function PastVacuum of package foliolaw14 returns true, and its arguments read behind the call as they read before; no condition.
-/
import Derived.Test.YticfpkodoghnnaaGreatPi
import Derived.Test.YticfpkodoghnnaaGreatPg
namespace Go.Proofs.YticfpkodoghnnaaGreat

theorem pastvacuum_holds : Rows.PastVacuumSaid := pastvacuum_of thePast

end Go.Proofs.YticfpkodoghnnaaGreat
