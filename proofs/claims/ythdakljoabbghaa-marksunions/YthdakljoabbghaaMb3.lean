/-
  For every two marks and all changes of bulk at most 1048576 the Go function MarksUnions of package foliolaw12 returns true, and its arguments read behind the call as they read before.
-/
import Derived.Test.YthdakljoabbghaaPf
import Derived.Test.YthdakljoabbghaaPd
namespace Go.Proofs.Ythdakljoabbghaa

theorem marksunions_holds : Rows.MarksUnionsUptoSaid := marksunions_of theMarks

end Go.Proofs.Ythdakljoabbghaa
