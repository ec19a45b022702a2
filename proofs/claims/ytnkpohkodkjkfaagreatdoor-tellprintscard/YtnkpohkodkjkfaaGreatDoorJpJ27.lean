/- tell's reader: the sender's sign is read. -/
import Derived.Test.YtnkpohkodkjkfaaGreatDoorJpJ26
import Derived.Test.YtnkpohkodkjkfaaGreatDoorJpJ11
import Derived.Test.YtnkpohkodkjkfaaGreatDoorJpJ18
import Derived.Test.YtnkpohkodkjkfaaGreatDoorJpJ22
set_option maxHeartbeats 40000000
set_option maxRecDepth 100000
set_option linter.unusedVariables false
namespace Go.Proofs.YtnkpohkodkjkfaaGreatDoor
open Go.RowKit Go.Shelf Go.Lib

theorem pos_of_one {t : ByteArray} (h : ((starts t).length : Int) = 1) : 0 < t.size := by
  rcases Nat.eq_zero_or_pos t.size with e | e
  · unfold starts at h
    rw [startsFrom_end t _ 0 (by omega)] at h
    simp at h
  · exact e
theorem Ros.ob {M nb : Nat} {v : Value} {l : List Int} {W V : World} (h : Ros M W v l) (hb : Ob nb W V) (h1 : M ≤ nb) (h2 : M ≤ W.heap.size) : Ros M V v l := h.below (hb.below (Below.refl _ _) h1 h2)
/-- A reader in a box. -/
def RdBx (W : World) (b : Nat) (sl mp : Value) (nb wb : Nat) : Prop := W.heap[b]? = some (.cells #[sl, mp, rdF nb wb] 84 (0, 0))
theorem RdBx.ob {W V : World} {b : Nat} {sl mp : Value} {nb wb : Nat} (h : RdBx W b sl mp nb wb) (hb : Ob nb W V) (hn : b ≠ nb) : RdBx V b sl mp nb wb := (hb.block b (lt_at h) hn).trans h
theorem load_rd {W : World} {b : Nat} {sl mp : Value} {nb wb : Nat} (h : RdBx W b sl mp nb wb) : (Instr.loadAt 84 (.pointer (some ⟨b, 0, none⟩))).run Tryz.prog W = .ok (.agg #[sl, mp, rdF nb wb]) W := by
  have c0 : W.cell? ⟨b, 0, none⟩ = some sl := (cell_at h 0).trans rfl
  have c1 : W.cell? ⟨b, 1, none⟩ = some mp := (cell_at h 1).trans rfl
  have c2 : W.cell? ⟨b, 2, none⟩ = some (rdF nb wb) := (cell_at h 2).trans rfl
  unfold rdF at c2 ⊢
  go_simp
theorem field_rd (W : World) (b : Nat) : (Instr.fieldAt 84 (.pointer (some ⟨b, 0, none⟩)) 1).run Tryz.prog W = .ok (.pointer (some ⟨b, 2, none⟩)) W := by go_simp
end Go.Proofs.YtnkpohkodkjkfaaGreatDoor
namespace Go.Proofs.YtnkpohkodkjkfaaGreatDoor

def dash : ByteArray := ⟨#[45]⟩
theorem cln_self {N : Nat} (h : N < S100) : cln N = N := Nat.mod_eq_of_lt h
end Go.Proofs.YtnkpohkodkjkfaaGreatDoor
namespace Go.Proofs.YtnkpohkodkjkfaaGreatDoor
open Go.RowKit Go.Shelf Go.Lib

end Go.Proofs.YtnkpohkodkjkfaaGreatDoor
