/-
  For every marks and all changes the Go function MarksHits of package foliolaw12 returns true, and its arguments read behind the call as they read before; no condition.
-/
import Derived.Test.YthdakljoabbghaaPf
import Derived.Test.YthdakljoabbghaaPd
namespace Go.Proofs.Ythdakljoabbghaa

theorem markshits_holds : Rows.MarksHitsSaid := markshits_of theMarks

end Go.Proofs.Ythdakljoabbghaa
