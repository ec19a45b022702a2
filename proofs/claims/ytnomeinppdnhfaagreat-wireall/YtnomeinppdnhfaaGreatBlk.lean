/- A block of four words: read, written, whole and by the word. -/
import Derived.Test.YtnomeinppdnhfaaGreatPop
import Derived.Deep.WholeRow
namespace Go.Proofs.YtnomeinppdnhfaaGreat
open Go.RowKit Go.Shelf Go.Lib

def cells4 (c : Nat → Nat) : Array Value := #[.int .u32 (c 0 : Nat), .int .u32 (c 1 : Nat), .int .u32 (c 2 : Nat), .int .u32 (c 3 : Nat)]
theorem sv_cells (N : Nat) : sv N = .agg (cells4 (wd N)) := rfl
/-- The block b holds these four words. -/
def Holds4 (w : World) (b : Nat) (c : Nat → Nat) : Prop := w.heap[b]? = some (.cells (cells4 c) 41)
theorem cells4_get (c : Nat → Nat) (k : Nat) (h : k < 4) : (cells4 c)[k]? = some (.int .u32 (c k : Nat)) := by
  match k, h with
  | 0, _ => rfl
  | 1, _ => rfl
  | 2, _ => rfl
  | 3, _ => rfl
theorem cells4_set (c : Nat → Nat) (k v : Nat) (h : k < 4) : (cells4 c).setIfInBounds k (.int .u32 (v : Nat)) = cells4 (fun j => if j = k then v else c j) := by
  match k, h with
  | 0, _ => rfl
  | 1, _ => rfl
  | 2, _ => rfl
  | 3, _ => rfl
theorem Holds4.cell {w : World} {b : Nat} {c : Nat → Nat} (h : Holds4 w b c) (k : Nat) (hk : k < 4) : w.cell? ⟨b, k, none⟩ = some (.int .u32 (c k : Nat)) := by
  unfold Holds4 at h
  simp [World.cell?, h, cells4_get c k hk]
theorem idx4 (b k : Nat) (hk : k < 4) (w : World) : (Instr.indexAt 41 (.pointer (some ⟨b, 0, none⟩)) (.int .i64 (k : Int))).run Tryz.prog w = .ok (.pointer (some ⟨b, k, none⟩)) w := by
  have h1 : (k : Int) < 4 := by omega
  have h2 : 0 ≤ (k : Int) := by omega
  go_simp
theorem load4 (w : World) (b k : Nat) (c : Nat → Nat) (h : Holds4 w b c) (hk : k < 4) : (Instr.loadAt 39 (.pointer (some ⟨b, k, none⟩))).run Tryz.prog w = .ok (.int .u32 (c k : Nat)) w := by
  have := h.cell k hk
  go_simp
theorem Holds4.frozen {w : World} {b : Nat} {c : Nat → Nat} (h : Holds4 w b c) (k : Nat) : w.frozen? ⟨b, k, none⟩ = false := by
  unfold Holds4 at h
  simp [World.frozen?, h]
theorem Holds4.set {w : World} {b : Nat} {c : Nat → Nat} (h : Holds4 w b c) (k v : Nat) (hk : k < 4) : Holds4 (w.setCell ⟨b, k, none⟩ (.int .u32 (v : Int))) b (fun j => if j = k then v else c j) := by
  unfold Holds4 at *
  have hlt := (Array.getElem?_eq_some_iff.1 h).1
  rw [← cells4_set c k v hk]
  simp [World.setCell, h, Array.getElem?_modify]
theorem store4 (w : World) (b k v : Nat) (c : Nat → Nat) (h : Holds4 w b c) (hk : k < 4) : ∃ w', (Instr.storeAt 39 (.pointer (some ⟨b, k, none⟩)) (.int .u32 (v : Int))).run Tryz.prog w = .ok () w' ∧ Holds4 w' b (fun j => if j = k then v else c j) ∧ (∀ B, B ≤ b → Below B w w') ∧ (∀ B, B ≠ b → w'.heap[B]? = w.heap[B]?) := by
  have h1 := h.cell k hk
  have h2 := h.frozen k
  refine ⟨w.setCell ⟨b, k, none⟩ (.int .u32 (v : Int)), ?_, h.set k v hk, fun B hB => (Below.refl B w).setCell hB _, fun B hB => Below.heap_setCell _ _ _ _ hB⟩
  go_simp
theorem whole4 (w : World) (b : Nat) (N : Nat) (h : Holds4 w b (wd N)) : (Instr.loadAt 41 (.pointer (some ⟨b, 0, none⟩))).run Tryz.prog w = .ok (sv N) w := by
  have := run_loadVar_row (P := Tryz.prog) w b 41 41 (cells4 (wd N)) (0, 0) _ h Tryz.underlying41 rfl (by kernel_rfl)
  simp only [Instr.loadAt, Instr.sureAddr, Sem.run_bind, Sem.run_pure, Result.andThen_ok, this]
  rfl
end Go.Proofs.YtnomeinppdnhfaaGreat
