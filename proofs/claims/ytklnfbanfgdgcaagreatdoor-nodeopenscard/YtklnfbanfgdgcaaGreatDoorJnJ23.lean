/- refute's due and Due: what they answer. -/
import Derived.Test.YtklnfbanfgdgcaaGreatDoorJnJ16
import Derived.Test.YtklnfbanfgdgcaaGreatDoorJnJ22
import Derived.Test.YtklnfbanfgdgcaaGreatDoorJnJ14
import Derived.Test.YtklnfbanfgdgcaaGreatDoorJnJ13
import Derived.LaidEql
import Derived.Deep.RegionWith
set_option maxHeartbeats 40000000
set_option maxRecDepth 100000
set_option linter.unusedVariables false
namespace Go.Proofs.YtklnfbanfgdgcaaGreatDoor
open Go.RowKit Go.Shelf Go.Lib


section
variable {W V : World} {q p : Nat} {P : Option Addr} {b : Bo} {d : Dst} {t : Int}
end

section
variable {g q p base : Nat} {W W' W'' : World}
end
section
variable {a : Addr} {g q p : Nat} {W W' : World}
end

section
variable {w : World} {bp g q p : Nat} {l : List N3} {b : Bo} {d : Dst} {a : Addr}
end
end Go.Proofs.YtklnfbanfgdgcaaGreatDoor
