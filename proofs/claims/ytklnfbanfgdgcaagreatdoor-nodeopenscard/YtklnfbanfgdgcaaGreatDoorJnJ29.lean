/- slices.Collect of what passOver goes through. -/
import Derived.Test.YtklnfbanfgdgcaaGreatDoorJnJ28
set_option maxHeartbeats 40000000
set_option maxRecDepth 100000
set_option linter.unusedVariables false
namespace Go.Proofs.YtklnfbanfgdgcaaGreatDoor
open Go.RowKit Go.Shelf Go.Lib
attribute [local go_sem] Oper.semAt_some

end Go.Proofs.YtklnfbanfgdgcaaGreatDoor
namespace Go.Proofs.YtklnfbanfgdgcaaGreatDoor
open Go.RowKit Go.Shelf Go.Lib
attribute [local go_sem] Oper.semAt_some

/-- No mistake of self. -/
def nm (self : Int) (x : N3) : Bool := !decide (x.1 = self ∧ x.2.2 = 1)
end Go.Proofs.YtklnfbanfgdgcaaGreatDoor
namespace Go.Proofs.YtklnfbanfgdgcaaGreatDoor
open Go.RowKit Go.Shelf Go.Lib
attribute [local go_sem] Oper.semAt_some

end Go.Proofs.YtklnfbanfgdgcaaGreatDoor
namespace Go.Proofs.YtklnfbanfgdgcaaGreatDoor
open Go.RowKit Go.Shelf Go.Lib
attribute [local go_sem] Oper.semAt_some

set_option maxHeartbeats 1000000 in
theorem ride_any {w : World} {p g : Nat} {l : List N3} (h : Bk w p g l) (h0 : 0 < l.length) (h1 : l.length ≤ 100) : Calls Tryz.prog 170 #[.pointer (some ⟨p, 0, none⟩)] w fun e w' => ∃ v, e = .returned v ∧ Made w w' v (l.filter pNew) ∧ Below w.heap.size w w' := by
  have hn := bnews_any h h0 h1
  go_enter Tryz.func170, Tryz.ntmps170
  go_wp2_with (go_at_call 209; (with_reducible refine hn.mono ?_); rintro e u1 ⟨v, rfl, hm, hb1⟩)
  go_ret
  exact ⟨v, rfl, hm, hb1⟩
end Go.Proofs.YtklnfbanfgdgcaaGreatDoor
