/- idset.Order, Subset, Has; cmp.Compare: what they answer, at every input. -/
import Derived.Test.YtnkpohkodkjkfaaGreatDoorJnJ20
set_option maxHeartbeats 40000000
set_option maxRecDepth 100000
set_option linter.unusedVariables false
namespace Go.Proofs.YtnkpohkodkjkfaaGreatDoor
open Go.RowKit Go.Shelf Go.Lib


end Go.Proofs.YtnkpohkodkjkfaaGreatDoor
