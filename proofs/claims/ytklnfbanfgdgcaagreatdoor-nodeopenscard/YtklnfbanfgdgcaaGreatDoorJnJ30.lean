/- A region that draws its order and ends with a call that panics. For every program. -/
import Derived.Test.YtklnfbanfgdgcaaGreatDoorJnJ0
import Derived.Test.YtklnfbanfgdgcaaGreatDoorJnJ18
import Derived.Test.YtklnfbanfgdgcaaGreatDoorJnJ19
import Derived.Test.YtklnfbanfgdgcaaGreatDoorJnJ1
import Derived.WalkLawsBesides
set_option maxHeartbeats 40000000
set_option maxRecDepth 100000
set_option linter.unusedVariables false
namespace Go.Proofs.YtklnfbanfgdgcaaGreatDoor
open Go.RowKit

end Go.Proofs.YtklnfbanfgdgcaaGreatDoor
namespace Go.Proofs.YtklnfbanfgdgcaaGreatDoor
open Go.RowKit Go.Shelf


end Go.Proofs.YtklnfbanfgdgcaaGreatDoor
namespace Go.Proofs.YtklnfbanfgdgcaaGreatDoor

/-- A note's fields: kind, from, round, heard, news; and where they end. -/
abbrev FN := Nat × Nat × Nat × Nat × List (Int × Int × Int)
end Go.Proofs.YtklnfbanfgdgcaaGreatDoor
