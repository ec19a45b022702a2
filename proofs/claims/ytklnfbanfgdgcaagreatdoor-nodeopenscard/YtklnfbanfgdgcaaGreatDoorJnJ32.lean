/- node's close and defend: what they answer. -/
import Derived.Test.YtklnfbanfgdgcaaGreatDoorJnJ31
import Derived.Test.YtklnfbanfgdgcaaGreatDoorJnJ19
set_option maxHeartbeats 40000000
set_option maxRecDepth 100000
set_option linter.unusedVariables false
namespace Go.Proofs.YtklnfbanfgdgcaaGreatDoor
open Go.RowKit Go.Shelf Go.Lib
attribute [local go_sem] Oper.semAt_some

section
variable {w W : World} {base x : Nat} {A : NA} {s : Ns}
end
end Go.Proofs.YtklnfbanfgdgcaaGreatDoor
namespace Go.Proofs.YtklnfbanfgdgcaaGreatDoor
open Go.RowKit Go.Shelf Go.Lib
attribute [local go_sem] Oper.semAt_some

section
variable {w W V : World} {base x : Nat} {A : NA} {s : Ns}
end
end Go.Proofs.YtklnfbanfgdgcaaGreatDoor
namespace Go.Proofs.YtklnfbanfgdgcaaGreatDoor
open Go.RowKit Go.Shelf

section
variable {w W : World} {p : Nat} {ad : Option Addr} {cap : Nat} {bs : List Nat} {i kd : Nat} {fr rd : Int} {N : Nat} {v : Value}
end

end Go.Proofs.YtklnfbanfgdgcaaGreatDoor
