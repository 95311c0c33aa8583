/-
  For every number and all stamps the Go function TrackFolds of package foliolaw13 returns true, and its arguments read behind the call as they read before; no condition.
-/
import Derived.Test.YtmihddbnddgfhaaPh
import Derived.Test.YtmihddbnddgfhaaPf
namespace Go.Proofs.Ytmihddbnddgfhaa

theorem trackfolds_holds : Rows.TrackFoldsSaid := trackfolds_of theTrack

end Go.Proofs.Ytmihddbnddgfhaa
