/- The closed facts of the row of NodeReplies, each a lemma of its own. -/
import Derived.Test.YtekjhcnaabpfmaaGreatDoorRows
import Derived.JoinedOf
import Derived.WalkKit
import Derived.ProofKit
namespace Go.Proofs.YtekjhcnaabpfmaaGreatDoor
open Go
set_option maxRecDepth 100000
set_option maxHeartbeats 4000000 in
theorem closed : joinedFacts Tryz.prog 4 Tryz.f4 Rows.nodeRepliesSpec Rows.nodeRepliesRow = true := by
  unfold joinedFacts
  (repeat' with_reducible refine Bool.and_eq_true_iff.2 ⟨?_, ?_⟩) <;> (as_aux_lemma => kernel_rfl)
end Go.Proofs.YtekjhcnaabpfmaaGreatDoor
