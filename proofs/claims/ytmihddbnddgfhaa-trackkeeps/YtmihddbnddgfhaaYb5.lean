/-
  For every number and every script the Go function TrackKeeps of package foliolaw13 returns true, and its arguments read behind the call as they read before; no condition.
-/
import Derived.Test.YtmihddbnddgfhaaPi
import Derived.Test.YtmihddbnddgfhaaPf
namespace Go.Proofs.Ytmihddbnddgfhaa

theorem trackkeeps_holds : Rows.TrackKeepsSaid := trackkeeps_of theTrack

end Go.Proofs.Ytmihddbnddgfhaa
