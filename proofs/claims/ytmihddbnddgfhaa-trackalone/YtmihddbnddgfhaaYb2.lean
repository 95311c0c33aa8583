/-
  For every number, every script and every done one the Go function TrackAlone of package foliolaw13 returns true, and its arguments read behind the call as they read before; no condition.
-/
import Derived.Test.YtmihddbnddgfhaaPh
import Derived.Test.YtmihddbnddgfhaaPf
namespace Go.Proofs.Ytmihddbnddgfhaa

theorem trackalone_holds : Rows.TrackAloneSaid := trackalone_of theTrack

end Go.Proofs.Ytmihddbnddgfhaa
