/-
  For every list of keys, all ranges and every number the Go function MarksGrow of package foliolaw12 returns true, and its arguments read behind the call as they read before; no condition.
-/
import Derived.Test.YthdakljoabbghaaPg
import Derived.Test.YthdakljoabbghaaPd
namespace Go.Proofs.Ythdakljoabbghaa

theorem marksgrow_holds : Rows.MarksGrowSaid := marksgrow_of theMarks

end Go.Proofs.Ythdakljoabbghaa
