/- GlyphClasses: for every rune of 32 bits the class that glyph.Class tells is that of the document; no condition. -/
import Derived.Test.YtibhljdiofglfabDoorBas
import Derived.Deep.Light
namespace Go.Proofs.YtibhljdiofglfabDoor
open Go.RowKit Go.Shelf

/-- The class of a rune. -/
def cls (r : Int) : Int :=
  if r = 9 ∨ r = 13 ∨ r = 32 then 1 else if r = 10 then 2 else if 48 ≤ r ∧ r ≤ 57 then 3
  else if (65 ≤ r ∧ r ≤ 90) ∨ (97 ≤ r ∧ r ≤ 122) then 4
  else if r = 215 ∨ r = 247 ∨ (768 ≤ r ∧ r ≤ 879) ∨ r = 5760 then 6
  else if (192 ≤ r ∧ r ≤ 8191) ∨ (12353 ≤ r ∧ r ≤ 55203) ∨ (127744 ≤ r ∧ r ≤ 129791) then 4
  else if 33 ≤ r ∧ r ≤ 126 then 5 else 6
theorem ret_int {k : IntKind} {a b : Int} (h : a = b) : Ending.returned (.int k a) = .returned (.int k b) := by rw [h]


set_option maxHeartbeats 4000000 in
theorem class_any (r : Int) (w : World) : Calls Tryd.prog 11 #[.int .i32 r] w fun e w' => e = .returned (.int .i64 (cls r)) ∧ w' = w := by
  go_enter Tryd.func11, Tryd.ntmps11
  go_wp2
  all_goals
    go_ret
    refine ⟨ret_int ?_, rfl⟩
    go_light
    try simp only [beq_iff_eq, beq_eq_false_iff_ne, ne_eq] at *
    show _ = cls r
    unfold cls
    repeat' split
    all_goals first | rfl | (exfalso; omega)
end Go.Proofs.YtibhljdiofglfabDoor
