/-
  For every script, all finds and every type of bulk at most 1048576 the Go function WritesOver of package foliolaw11 returns true, and its arguments read behind the call as they read before.
-/
import Derived.Test.YtjehjjpdicimhaaPf
import Derived.Test.YtjehjjpdicimhaaPd
namespace Go.Proofs.Ytjehjjpdicimhaa

theorem writesover_holds : Rows.WritesOverUptoSaid := writesover_of theSet

end Go.Proofs.Ytjehjjpdicimhaa
