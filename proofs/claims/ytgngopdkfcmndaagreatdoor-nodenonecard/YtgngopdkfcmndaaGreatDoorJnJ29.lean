/- infer's fold over sets, Union: what they answer. -/
import Derived.Test.YtgngopdkfcmndaaGreatDoorJnJ28
import Derived.Test.YtgngopdkfcmndaaGreatDoorJnJ6
import Derived.Test.YtgngopdkfcmndaaGreatDoorJnJ7
namespace Go.Proofs.YtgngopdkfcmndaaGreatDoor
open Go.RowKit Go.Shelf



section
variable {w W V : World} {base q : Nat} {ad : Option Addr} {cap : Nat} {t : Tl}
end
end Go.Proofs.YtgngopdkfcmndaaGreatDoor
namespace Go.Proofs.YtgngopdkfcmndaaGreatDoor
open Go.RowKit Go.Shelf Go.Lib
attribute [local go_sem] Oper.semAt_some

end Go.Proofs.YtgngopdkfcmndaaGreatDoor
