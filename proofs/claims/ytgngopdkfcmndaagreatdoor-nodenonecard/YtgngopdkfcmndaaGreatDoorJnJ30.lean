/- node's close and defend: what they answer. -/
import Derived.Test.YtgngopdkfcmndaaGreatDoorJnJ29
import Derived.Test.YtgngopdkfcmndaaGreatDoorJnJ19
import Derived.Test.YtgngopdkfcmndaaGreatDoorJnJ28
namespace Go.Proofs.YtgngopdkfcmndaaGreatDoor
open Go.RowKit Go.Shelf Go.Lib
attribute [local go_sem] Oper.semAt_some

section
variable {w W : World} {base x : Nat} {A : NA} {s : Ns}
end
end Go.Proofs.YtgngopdkfcmndaaGreatDoor
namespace Go.Proofs.YtgngopdkfcmndaaGreatDoor
open Go.RowKit Go.Shelf Go.Lib
attribute [local go_sem] Oper.semAt_some

section
variable {w W V : World} {base x : Nat} {A : NA} {s : Ns}
end
end Go.Proofs.YtgngopdkfcmndaaGreatDoor
namespace Go.Proofs.YtgngopdkfcmndaaGreatDoor
open Go.RowKit Go.Shelf

section
variable {w W : World} {p : Nat} {ad : Option Addr} {cap : Nat} {bs : List Nat} {i kd : Nat} {fr rd : Int} {N : Nat} {v : Value}
end

end Go.Proofs.YtgngopdkfcmndaaGreatDoor
