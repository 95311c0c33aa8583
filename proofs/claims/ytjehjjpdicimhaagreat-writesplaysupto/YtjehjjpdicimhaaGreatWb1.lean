/-
  For every script of bulk at most 1048576 the Go function WritesPlays of package foliolaw11 returns true, and its arguments read behind the call as they read before.
-/
import Derived.Test.YtjehjjpdicimhaaGreatPg
import Derived.Test.YtjehjjpdicimhaaGreatPe
namespace Go.Proofs.YtjehjjpdicimhaaGreat

theorem writesplays_holds : Rows.WritesPlaysUptoSaid := writesplays_of theSet

end Go.Proofs.YtjehjjpdicimhaaGreat
