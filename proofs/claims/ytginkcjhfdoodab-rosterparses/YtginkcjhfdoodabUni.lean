/- idset.Union, Meet, Less: what they answer, at every input. -/
import Derived.Test.YtginkcjhfdoodabBlw
namespace Go.Proofs.Ytginkcjhfdoodab
open Go.RowKit Go.Shelf Go.Lib

end Go.Proofs.Ytginkcjhfdoodab
