import Derived.Test.YtmahamdmapbilaaGreatDoorJwJ30
set_option maxHeartbeats 40000000
set_option maxRecDepth 100000
set_option linter.unusedVariables false
namespace Go.Proofs.YtmahamdmapbilaaGreatDoor
open Go.RowKit Go.Shelf Go.Lib
end Go.Proofs.YtmahamdmapbilaaGreatDoor
