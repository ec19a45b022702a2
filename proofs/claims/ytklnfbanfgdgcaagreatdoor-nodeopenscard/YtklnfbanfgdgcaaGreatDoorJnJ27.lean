/- Lists of sets, read. -/
import Derived.Test.YtklnfbanfgdgcaaGreatDoorJnJ6
import Derived.Test.YtklnfbanfgdgcaaGreatDoorJnJ7
set_option maxHeartbeats 40000000
set_option maxRecDepth 100000
set_option linter.unusedVariables false
namespace Go.Proofs.YtklnfbanfgdgcaaGreatDoor
open Go.RowKit Go.Shelf


/-- Sets put together, one behind the other. -/
def unis (H : Nat) (l : List Nat) : Nat := l.foldl (fun a b => cln (a ||| b)) H


theorem hold_row {V : World} {b b' : Nat} {c : Nat → Nat} (h : Holds4 V b c) (hne : b ≠ b') (cs : Array Value) : Holds4 (V.setRow b' cs) b c := (setRow_other _ _ _ _ hne).trans h
/-- Who has replied, and whom they have heard. -/
def kn (t : Tl) : Nat := unis t.reps t.hs
section
variable {w W V : World} {base q : Nat} {ad : Option Addr} {cap : Nat} {t : Tl}
theorem store_s {W : World} {b : Nat} {c : Nat → Nat} (h : Holds4 W b c) (M : Nat) : (Instr.storeAt 51 (.pointer (some ⟨b, 0, none⟩)) (sv M)).run Tryz.prog W = .ok () (set4 W b M) := by
  obtain ⟨y0, y1, y2, y3, z0, z1, z2, z3⟩ := h.facts
  unfold sv set4
  go_simp
end
end Go.Proofs.YtklnfbanfgdgcaaGreatDoor
