/- idset.Union, Meet, Less: what they answer, at every input. -/
import Derived.Test.YtahlehgibcdfeabDoorBlw
namespace Go.Proofs.YtahlehgibcdfeabDoor
open Go.RowKit Go.Shelf Go.Lib

end Go.Proofs.YtahlehgibcdfeabDoor
