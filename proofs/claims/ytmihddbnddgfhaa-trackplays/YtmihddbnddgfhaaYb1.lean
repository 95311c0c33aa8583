/-
  For every number and every script the Go function TrackPlays of package foliolaw13 returns true, and its arguments read behind the call as they read before; no condition.
-/
import Derived.Test.YtmihddbnddgfhaaPh
import Derived.Test.YtmihddbnddgfhaaPf
namespace Go.Proofs.Ytmihddbnddgfhaa

theorem trackplays_holds : Rows.TrackPlaysSaid := trackplays_of theTrack

end Go.Proofs.Ytmihddbnddgfhaa
