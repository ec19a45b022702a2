/- idset.Union, Meet, Less: what they answer, at every input. -/
import Derived.Test.YtddblfffjhoiaaaBlw
namespace Go.Proofs.Ytddblfffjhoiaaa
open Go.RowKit Go.Shelf Go.Lib

end Go.Proofs.Ytddblfffjhoiaaa
