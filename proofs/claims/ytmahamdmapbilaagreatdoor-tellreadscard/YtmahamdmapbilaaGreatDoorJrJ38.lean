import Derived.Test.YtmahamdmapbilaaGreatDoorJrJ15
import Derived.Test.YtmahamdmapbilaaGreatDoorRows
import Derived.ProofKit
import Derived.OpenShut
import Derived.Laws.IdiomArrays
import Derived.Deep.Strs
set_option maxHeartbeats 40000000
set_option maxRecDepth 100000
set_option linter.unusedVariables false
namespace Go.Proofs.YtmahamdmapbilaaGreatDoor
open Go.ChangeShapes Go.WideShapes Go.ChangeAt Go.RowKit
end Go.Proofs.YtmahamdmapbilaaGreatDoor
