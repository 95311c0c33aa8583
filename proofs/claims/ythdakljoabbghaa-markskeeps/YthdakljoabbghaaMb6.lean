/-
  For every two marks and every key of bulk at most 1048576 the Go function MarksKeeps of package foliolaw12 returns true, and its arguments read behind the call as they read before.
-/
import Derived.Test.YthdakljoabbghaaPg
import Derived.Test.YthdakljoabbghaaPd
namespace Go.Proofs.Ythdakljoabbghaa

theorem markskeeps_holds : Rows.MarksKeepsUptoSaid := markskeeps_of theMarks

end Go.Proofs.Ythdakljoabbghaa
