/- idset.Union, Meet, Less: what they answer, at every input. -/
import Derived.Test.YtcdefcaoocnlbaaBlw
namespace Go.Proofs.Ytcdefcaoocnlbaa
open Go.RowKit Go.Shelf Go.Lib

end Go.Proofs.Ytcdefcaoocnlbaa
