/- The closed facts of the row of NodeOpens, each a lemma of its own. -/
import Derived.Test.YtklnfbanfgdgcaaGreatDoorRows
import Derived.JoinedOf
import Derived.WalkKit
import Derived.ProofKit
set_option maxHeartbeats 40000000
set_option maxRecDepth 100000
set_option linter.unusedVariables false
namespace Go.Proofs.YtklnfbanfgdgcaaGreatDoor
open Go
set_option maxRecDepth 100000
set_option maxHeartbeats 4000000 in
theorem closed : joinedFacts Tryz.prog 3 Tryz.f3 Rows.nodeOpensSpec Rows.nodeOpensRow = true := by
  unfold joinedFacts
  (repeat' with_reducible refine Bool.and_eq_true_iff.2 ⟨?_, ?_⟩) <;> (as_aux_lemma => kernel_rfl)
end Go.Proofs.YtklnfbanfgdgcaaGreatDoor
