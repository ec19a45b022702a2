/- Blocks of cells in loops over functions: what they hold, and that they are kept. -/
import Derived.Test.YtoplegfibdmjeaaDoorAll
import Derived.Test.YtoplegfibdmjeaaDoorOwn
namespace Go.Proofs.YtoplegfibdmjeaaDoor
open Go.RowKit Go.Shelf Go.Lib

theorem Kept.setCell {bx B m : Nat} {W : World} {B' j : Nat} {v : Value} (h1 : B' ≠ bx) (h2 : B' < B ∨ B + m ≤ B') : Kept bx B m W (W.setCell ⟨B', j, none⟩ v) :=
  ⟨by simp [World.setCell], set_other (Ne.symm h1), fun k h3 h4 => set_other (by omega)⟩
/-- The list of deferred calls is taken: nothing else turns. -/
theorem below_taken {n : Nat} {w W : World} {k : Nat} (o : Obj) (h : Below n w W) (hk : n ≤ k) : Below n w (W.putObj k o) :=
  h.trans ⟨rfl, rfl, rfl, by simp, fun j hj => World.putObj_heap_other (by omega)⟩
end Go.Proofs.YtoplegfibdmjeaaDoor
