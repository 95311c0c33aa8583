/-
  For every number, every script and every done one the Go function TrackDrops of package foliolaw13 returns true, and its arguments read behind the call as they read before; no condition.
-/
import Derived.Test.YtmihddbnddgfhaaPh
import Derived.Test.YtmihddbnddgfhaaPf
namespace Go.Proofs.Ytmihddbnddgfhaa

theorem trackdrops_holds : Rows.TrackDropsSaid := trackdrops_of theTrack

end Go.Proofs.Ytmihddbnddgfhaa
