/- Two small facts on blocks. -/
import Derived.Test.YtngjjcmoekeciaaGreatDoorBas
namespace Go.Proofs.YtngjjcmoekeciaaGreatDoor
open Go.RowKit Go.Shelf
theorem get_new {w : World} {o : Obj} {k : Nat} (h : k = w.heap.size) : (w.alloc o).heap[k]? = some o := by subst h; exact World.alloc_heap_new w o
theorem cell_of {W : World} {B : Nat} {cs : Array Value} {t : TypeId} {z : Nat × Nat} (h : W.heap[B]? = some (.cells cs t z)) (j : Nat) : W.cell? ⟨B, j, none⟩ = cs[j]? := by simp [World.cell?, h]
end Go.Proofs.YtngjjcmoekeciaaGreatDoor
