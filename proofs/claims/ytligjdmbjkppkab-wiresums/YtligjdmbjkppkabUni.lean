/- idset.Union, Meet, Less: what they answer, at every input. -/
import Derived.Test.YtligjdmbjkppkabBlw
namespace Go.Proofs.Ytligjdmbjkppkab
open Go.RowKit Go.Shelf Go.Lib

end Go.Proofs.Ytligjdmbjkppkab
