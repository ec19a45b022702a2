/- A region that draws its order and ends with a call that panics. For every program. -/
import Derived.Test.YtgngopdkfcmndaaGreatDoorJnJ0
import Derived.Test.YtgngopdkfcmndaaGreatDoorJnJ18
import Derived.Test.YtgngopdkfcmndaaGreatDoorJnJ19
import Derived.Test.YtgngopdkfcmndaaGreatDoorJnJ1
import Derived.WalkLawsBesides
namespace Go.Proofs.YtgngopdkfcmndaaGreatDoor
open Go.RowKit

end Go.Proofs.YtgngopdkfcmndaaGreatDoor
namespace Go.Proofs.YtgngopdkfcmndaaGreatDoor
open Go.RowKit Go.Shelf


end Go.Proofs.YtgngopdkfcmndaaGreatDoor
namespace Go.Proofs.YtgngopdkfcmndaaGreatDoor

/-- A note's fields: kind, from, round, heard, news; and where they end. -/
abbrev FN := Nat × Nat × Nat × Nat × List (Int × Int × Int)
end Go.Proofs.YtgngopdkfcmndaaGreatDoor
