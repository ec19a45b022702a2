/- idset.Union, Meet, Less: what they answer, at every input. -/
import Derived.Test.YtcdefcaoocnlbabBlw
namespace Go.Proofs.Ytcdefcaoocnlbab
open Go.RowKit Go.Shelf Go.Lib

end Go.Proofs.Ytcdefcaoocnlbab
