/-
  For every two marks and every key of bulk at most 1048576 the Go function MarksAdds of package foliolaw12 returns true, and its arguments read behind the call as they read before.
-/
import Derived.Test.YthdakljoabbghaaPf
import Derived.Test.YthdakljoabbghaaPd
namespace Go.Proofs.Ythdakljoabbghaa

theorem marksadds_holds : Rows.MarksAddsUptoSaid := marksadds_of theMarks

end Go.Proofs.Ythdakljoabbghaa
