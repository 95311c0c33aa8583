/-
  For every range, every change and all finds the Go function MarksMisses of package foliolaw12 returns true, and its arguments read behind the call as they read before; no condition.
-/
import Derived.Test.YthdakljoabbghaaPf
import Derived.Test.YthdakljoabbghaaPd
namespace Go.Proofs.Ythdakljoabbghaa

theorem marksmisses_holds : Rows.MarksMissesSaid := marksmisses_of theMarks

end Go.Proofs.Ythdakljoabbghaa
