/- The document's answers of chapter 5: what they say, at every notice. -/
import Derived.Test.YtligjdmbjkppkaaNtd
namespace Go.Proofs.Ytligjdmbjkppkaa
open Go.RowKit Go.Shelf

end Go.Proofs.Ytligjdmbjkppkaa
