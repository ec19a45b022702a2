/- The document's answers of chapter 5: what they say, at every notice. -/
import Derived.Test.YtpphmfmfenifgaaNtd
namespace Go.Proofs.Ytpphmfmfenifgaa
open Go.RowKit Go.Shelf

end Go.Proofs.Ytpphmfmfenifgaa
