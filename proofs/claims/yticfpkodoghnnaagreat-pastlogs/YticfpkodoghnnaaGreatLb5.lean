/-
  For every script and every question the Go function PastLogs of package foliolaw14 returns true, and its arguments read behind the call as they read before; no condition.
-/
import Derived.Test.YticfpkodoghnnaaGreatPi
import Derived.Test.YticfpkodoghnnaaGreatPg
namespace Go.Proofs.YticfpkodoghnnaaGreat

theorem pastlogs_holds : Rows.PastLogsSaid := pastlogs_of thePast

end Go.Proofs.YticfpkodoghnnaaGreat
