/- The document's Sum; earshotbook.Stays of bytes that stay: what they answer. -/
import Derived.Test.YtklnfbanfgdgcaaGreatDoorJnJ35
import Derived.Laws.CopyOwn
import Derived.Deep.OwnRows
import Derived.Test.YtklnfbanfgdgcaaGreatDoorJnJ26
import Derived.Test.YtklnfbanfgdgcaaGreatDoorJnJ15
set_option maxHeartbeats 40000000
set_option maxRecDepth 100000
set_option linter.unusedVariables false
namespace Go.Proofs.YtklnfbanfgdgcaaGreatDoor
open Go.RowKit Go.Shelf


section
variable {w : World} {kd : Int} {fr : Nat} {rd : Int} {N : Nat} {v b : Value} {C : List Nat} {o q gb off : Nat} {l : List (Int × Int × Int)} {g : Nat × Value} {W : World}
end
section
variable {G : Type} {P : Program} {md : Region.Mode} {ops : Array Oper} {Q : Exit → Act → World → Prop} {X0 : Array Value} {val : G → Nat → Value} {J : G → (Nat → Bool) → World → Prop} {i : Nat} {o : Oper}
end

end Go.Proofs.YtklnfbanfgdgcaaGreatDoor
namespace Go.Proofs.YtklnfbanfgdgcaaGreatDoor
open Go.RowKit Go.Shelf
set_option linter.unusedVariables false

end Go.Proofs.YtklnfbanfgdgcaaGreatDoor
