/-
  For every list of keys, all ranges and every number of bulk at most 1048576 the Go function MarksGrow of package foliolaw12 returns true, and its arguments read behind the call as they read before.
-/
import Derived.Test.YthdakljoabbghaaPg
import Derived.Test.YthdakljoabbghaaPd
namespace Go.Proofs.Ythdakljoabbghaa

theorem marksgrow_holds : Rows.MarksGrowUptoSaid := marksgrow_of theMarks

end Go.Proofs.Ythdakljoabbghaa
