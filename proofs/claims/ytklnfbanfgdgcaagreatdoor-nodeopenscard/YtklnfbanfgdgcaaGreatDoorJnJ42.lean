/- node's Hear of a rumour: what it answers. -/
import Derived.Test.YtklnfbanfgdgcaaGreatDoorJnJ36
import Derived.Test.YtklnfbanfgdgcaaGreatDoorJnJ41
set_option maxHeartbeats 40000000
set_option maxRecDepth 100000
set_option linter.unusedVariables false
namespace Go.Proofs.YtklnfbanfgdgcaaGreatDoor
open Go.RowKit Go.Shelf Go.Lib
attribute [local go_sem] Oper.semAt_some

set_option linter.unusedVariables false
section
variable {w W : World} {base x : Nat} {A : NA} {s : Ns}
end
end Go.Proofs.YtklnfbanfgdgcaaGreatDoor
namespace Go.Proofs.YtklnfbanfgdgcaaGreatDoor
open Go.RowKit Go.Shelf Go.Lib
attribute [local go_sem] Oper.semAt_some

set_option linter.unusedVariables false
section
variable {w W : World} {base x : Nat} {A : NA} {s : Ns}
end
end Go.Proofs.YtklnfbanfgdgcaaGreatDoor
namespace Go.Proofs.YtklnfbanfgdgcaaGreatDoor
open Go.RowKit Go.Shelf Go.Lib
attribute [local go_sem] Oper.semAt_some

set_option linter.unusedVariables false
section
variable {w W : World} {base x : Nat} {A : NA} {s : Ns}
end
end Go.Proofs.YtklnfbanfgdgcaaGreatDoor
namespace Go.Proofs.YtklnfbanfgdgcaaGreatDoor
open Go.RowKit Go.Shelf Go.Lib
set_option linter.unusedVariables false

section
variable {m : Nat} {s : Ns}
end
end Go.Proofs.YtklnfbanfgdgcaaGreatDoor
