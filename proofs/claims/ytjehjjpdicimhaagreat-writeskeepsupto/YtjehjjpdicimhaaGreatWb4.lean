/-
  For every script and all finds of bulk at most 1048576 the Go function WritesKeeps of package foliolaw11 returns true, and its arguments read behind the call as they read before.
-/
import Derived.Test.YtjehjjpdicimhaaGreatPg
import Derived.Test.YtjehjjpdicimhaaGreatPe
namespace Go.Proofs.YtjehjjpdicimhaaGreat

theorem writeskeeps_holds : Rows.WritesKeepsUptoSaid := writeskeeps_of theSet

end Go.Proofs.YtjehjjpdicimhaaGreat
