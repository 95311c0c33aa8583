/-
  For every number and all tries the Go function TrackSerial of package foliolaw13 returns true, and its arguments read behind the call as they read before; no condition.
-/
import Derived.Test.YtmihddbnddgfhaaPh
import Derived.Test.YtmihddbnddgfhaaPf
namespace Go.Proofs.Ytmihddbnddgfhaa

theorem trackserial_holds : Rows.TrackSerialSaid := trackserial_of theTrack

end Go.Proofs.Ytmihddbnddgfhaa
