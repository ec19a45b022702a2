/- What List, Count and Plain of the document answer: at every text of at most 2^20 bytes. -/
import Derived.Test.YtakobmhnochlhaaRef
import Derived.Test.YtakobmhnochlhaaChs
namespace Go.Proofs.Ytakobmhnochlhaa
open Go.RowKit Go.Shelf

end Go.Proofs.Ytakobmhnochlhaa
