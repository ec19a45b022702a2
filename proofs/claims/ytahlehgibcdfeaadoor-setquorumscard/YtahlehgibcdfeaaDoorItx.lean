/- Blocks of cells in loops over functions: what they hold, and that they are kept. -/
import Derived.Test.YtahlehgibcdfeaaDoorAll
namespace Go.Proofs.YtahlehgibcdfeaaDoor
open Go.RowKit Go.Shelf Go.Lib

theorem set_get {W : World} {B : Nat} {cs : Array Value} {t : TypeId} {z : Nat × Nat} (j : Nat) (v : Value) (h : W.heap[B]? = some (.cells cs t z)) : (W.setCell ⟨B, j, none⟩ v).heap[B]? = some (.cells (cs.setIfInBounds j v) t z) := by
  simp [World.setCell, Array.getElem?_modify, h]
theorem set_other {W : World} {B B' j : Nat} {v : Value} (h : B ≠ B') : (W.setCell ⟨B', j, none⟩ v).heap[B]? = W.heap[B]? := Below.heap_setCell _ _ _ _ h
theorem cell_of {W : World} {B : Nat} {cs : Array Value} {t : TypeId} {z : Nat × Nat} (h : W.heap[B]? = some (.cells cs t z)) (j : Nat) : W.cell? ⟨B, j, none⟩ = cs[j]? := by simp [World.cell?, h]
theorem frozen_of {W : World} {B : Nat} {cs : Array Value} {t : TypeId} (h : W.heap[B]? = some (.cells cs t (0, 0))) (j : Nat) : W.frozen? ⟨B, j, none⟩ = false := by simp [World.frozen?, h]
theorem Kept.setCell {bx B m : Nat} {W : World} {B' j : Nat} {v : Value} (h1 : B' ≠ bx) (h2 : B' < B ∨ B + m ≤ B') : Kept bx B m W (W.setCell ⟨B', j, none⟩ v) :=
  ⟨by simp [World.setCell], set_other (Ne.symm h1), fun k h3 h4 => set_other (by omega)⟩
/-- The list of deferred calls is taken: nothing else turns. -/
theorem below_taken {n : Nat} {w W : World} {k : Nat} (o : Obj) (h : Below n w W) (hk : n ≤ k) : Below n w (W.putObj k o) :=
  h.trans ⟨rfl, rfl, rfl, by simp, fun j hj => World.putObj_heap_other (by omega)⟩
end Go.Proofs.YtahlehgibcdfeaaDoor
