/- The document's answers of chapter 5: what they say, at every notice. -/
import Derived.Test.YtddblfffjhoiaaaNtd
namespace Go.Proofs.Ytddblfffjhoiaaa
open Go.RowKit Go.Shelf

end Go.Proofs.Ytddblfffjhoiaaa
