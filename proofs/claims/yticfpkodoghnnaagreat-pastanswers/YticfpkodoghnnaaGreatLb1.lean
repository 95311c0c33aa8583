/-
  For every script and all questions the Go function PastAnswers of package foliolaw14 returns true, and its arguments read behind the call as they read before; no condition.
-/
import Derived.Test.YticfpkodoghnnaaGreatPi
import Derived.Test.YticfpkodoghnnaaGreatPg
namespace Go.Proofs.YticfpkodoghnnaaGreat

theorem pastanswers_holds : Rows.PastAnswersSaid := pastanswers_of thePast

end Go.Proofs.YticfpkodoghnnaaGreat
