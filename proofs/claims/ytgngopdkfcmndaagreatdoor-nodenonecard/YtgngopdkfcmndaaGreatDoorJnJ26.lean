/- slices.Collect of what passOver goes through. -/
import Derived.Test.YtgngopdkfcmndaaGreatDoorJnJ25
namespace Go.Proofs.YtgngopdkfcmndaaGreatDoor
open Go.RowKit Go.Shelf Go.Lib
attribute [local go_sem] Oper.semAt_some

end Go.Proofs.YtgngopdkfcmndaaGreatDoor
namespace Go.Proofs.YtgngopdkfcmndaaGreatDoor
open Go.RowKit Go.Shelf Go.Lib
attribute [local go_sem] Oper.semAt_some

end Go.Proofs.YtgngopdkfcmndaaGreatDoor
namespace Go.Proofs.YtgngopdkfcmndaaGreatDoor
open Go.RowKit Go.Shelf Go.Lib
attribute [local go_sem] Oper.semAt_some

end Go.Proofs.YtgngopdkfcmndaaGreatDoor
namespace Go.Proofs.YtgngopdkfcmndaaGreatDoor
open Go.RowKit Go.Shelf Go.Lib
attribute [local go_sem] Oper.semAt_some

set_option maxHeartbeats 1000000 in
theorem ride_any {w : World} {p g : Nat} {l : List N3} (h : Bk w p g l) (h0 : 0 < l.length) (h1 : l.length ≤ 100) : Calls Tryz.prog 75 #[.pointer (some ⟨p, 0, none⟩)] w fun e w' => ∃ v, e = .returned v ∧ Made w w' v (l.filter pNew) ∧ Below w.heap.size w w' := by
  have hn := bnews_any h h0 h1
  go_enter Tryz.func75, Tryz.ntmps75
  go_wp2_with (go_at_call 116; (with_reducible refine hn.mono ?_); rintro e u1 ⟨v, rfl, hm, hb1⟩)
  go_ret
  exact ⟨v, rfl, hm, hb1⟩
end Go.Proofs.YtgngopdkfcmndaaGreatDoor
