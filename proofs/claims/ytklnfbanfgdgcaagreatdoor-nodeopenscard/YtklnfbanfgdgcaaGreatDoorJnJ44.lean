/- Poll and Hear of a node on a new disk; the document's bytes of any note: what they answer. -/
import Derived.Test.YtklnfbanfgdgcaaGreatDoorJnJ42
import Derived.Test.YtklnfbanfgdgcaaGreatDoorJnJ43
import Derived.Test.YtklnfbanfgdgcaaGreatDoorJnJ34
import Derived.Test.YtklnfbanfgdgcaaGreatDoorJnJ25
set_option maxHeartbeats 40000000
set_option maxRecDepth 100000
set_option linter.unusedVariables false
namespace Go.Proofs.YtklnfbanfgdgcaaGreatDoor
open Go.RowKit Go.Shelf Go.Lib
set_option linter.unusedVariables false

section
variable {w W : World} {base x : Nat} {A : NA} {s : Ns} {m : Nat}
end
end Go.Proofs.YtklnfbanfgdgcaaGreatDoor
namespace Go.Proofs.YtklnfbanfgdgcaaGreatDoor
open Go.ChangeShapes Go.WideShapes Go.ChangeAt Go.RowKit

/-- A step: its kind, two numbers, a note, bytes. -/
structure OpN where
  k : Int
  a : Int
  b : Int
  nk : Int
  nf : Int
  nr : Int
  nN : Nat
  na : Option Addr
  nc : Nat
  nl : List N3
  da : Option Addr
  dc : Nat
  dl : List Nat
end Go.Proofs.YtklnfbanfgdgcaaGreatDoor
namespace Go.Proofs.YtklnfbanfgdgcaaGreatDoor
open Go.RowKit Go.Shelf Go.Lib
attribute [local go_sem] Oper.semAt_some
set_option linter.unusedVariables false

section
variable {w W : World} {base x : Nat} {A : NA} {s : Ns} {m : Nat} {o : OpN}
end
end Go.Proofs.YtklnfbanfgdgcaaGreatDoor
namespace Go.Proofs.YtklnfbanfgdgcaaGreatDoor
open Go.RowKit Go.Shelf Go.Lib
attribute [local go_sem] Oper.semAt_some
set_option linter.unusedVariables false

end Go.Proofs.YtklnfbanfgdgcaaGreatDoor
