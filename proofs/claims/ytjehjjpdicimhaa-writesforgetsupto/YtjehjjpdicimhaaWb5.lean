/-
  For every script, every key and all finds of bulk at most 1048576 the Go function WritesForgets of package foliolaw11 returns true, and its arguments read behind the call as they read before.
-/
import Derived.Test.YtjehjjpdicimhaaPf
import Derived.Test.YtjehjjpdicimhaaPd
namespace Go.Proofs.Ytjehjjpdicimhaa

theorem writesforgets_holds : Rows.WritesForgetsUptoSaid := writesforgets_of theSet

end Go.Proofs.Ytjehjjpdicimhaa
