/-
  For every script the Go function WritesLast of package foliolaw11 returns true, and its arguments read behind the call as they read before; no condition.
-/
import Derived.Test.YtjehjjpdicimhaaPf
import Derived.Test.YtjehjjpdicimhaaPd
namespace Go.Proofs.Ytjehjjpdicimhaa

theorem writeslast_holds : Rows.WritesLastSaid := writeslast_of theSet

end Go.Proofs.Ytjehjjpdicimhaa
