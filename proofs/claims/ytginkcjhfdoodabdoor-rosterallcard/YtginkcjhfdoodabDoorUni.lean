/- idset.Union, Meet, Less: what they answer, at every input. -/
import Derived.Test.YtginkcjhfdoodabDoorBlw
namespace Go.Proofs.YtginkcjhfdoodabDoor
open Go.RowKit Go.Shelf Go.Lib

end Go.Proofs.YtginkcjhfdoodabDoor
