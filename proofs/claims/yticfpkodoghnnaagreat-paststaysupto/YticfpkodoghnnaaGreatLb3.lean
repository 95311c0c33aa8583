/-
  For every script, every later one and all questions of bulk at most 1048576 the Go function PastStays of package foliolaw14 returns true, and its arguments read behind the call as they read before.
-/
import Derived.Test.YticfpkodoghnnaaGreatPi
import Derived.Test.YticfpkodoghnnaaGreatPg
namespace Go.Proofs.YticfpkodoghnnaaGreat

theorem paststays_holds : Rows.PastStaysUptoSaid := paststays_of thePast

end Go.Proofs.YticfpkodoghnnaaGreat
