/- idset.lowest, bit, isId; math/bits.OnesCount32: what they answer, at every input. -/
import Derived.Test.YtnkpohkodkjkfaaGreatDoorProg
import Derived.Test.YtnkpohkodkjkfaaGreatDoorJpJ18
import Derived.Test.YtnkpohkodkjkfaaGreatDoorJpJ9
import Derived.Shelf.Abstract
import Derived.Laws.BitsAll
import Derived.Laws.Shifts
import Derived.Test.YtnkpohkodkjkfaaGreatDoorJpJ14
import Derived.Lib.Tables
import Derived.Deep.WholeRow
set_option maxHeartbeats 40000000
set_option maxRecDepth 100000
set_option linter.unusedVariables false
namespace Go.Proofs.YtnkpohkodkjkfaaGreatDoor
open Go.RowKit Go.Shelf Go.Lib
attribute [local go_sem] Oper.semAt_some

theorem ret_int {k : IntKind} {a b : Int} (h : a = b) : Ending.returned (.int k a) = .returned (.int k b) := by rw [h]
theorem ret_bool {a b : Bool} (h : a = b) : Ending.returned (.bool a) = .returned (.bool b) := by rw [h]
def lowN (k : Int) : Nat := 2 ^ (min (max k 0) 32).toNat - 1
theorem two_pow_int (n : Nat) : (2 : Int) ^ n = ((2 ^ n : Nat) : Int) := by simp
theorem pow_le32 (n : Nat) (h : n ≤ 32) : 1 ≤ 2 ^ n ∧ 2 ^ n ≤ 4294967296 := ⟨Nat.one_le_two_pow, Nat.pow_le_pow_right (n := 2) (j := 32) (by decide) h⟩
theorem lowN_lt (k : Int) : lowN k < 4294967296 := by
  unfold lowN
  have := pow_le32 (min (max k 0) 32).toNat (by omega)
  omega
set_option maxHeartbeats 1000000 in
theorem lowest_any (k : Int) (w : World) : Calls Tryz.prog 124 #[.int .i64 k] w fun e w' => e = .returned (.int .u32 (lowN k : Nat)) ∧ w' = w := by
  go_enter Tryz.func124, Tryz.ntmps124
  go_wp2
  all_goals
    go_ret
    refine ⟨ret_int ?_, rfl⟩
    unfold lowN
    first
    | (rw [show (min (max k 0) 32) = 32 by omega]; rfl)
    | (rw [show (min (max k 0) 32) = 0 by omega]; rfl)
    | (rw [show (min (max k 0) 32) = k by omega, two_pow_int]
       have := pow_le32 k.toNat (by omega)
       generalize 2 ^ k.toNat = z at *
       omega)
    | (have hn : (min (max k 0) 32).toNat ≤ 32 := by omega
       generalize (min (max k 0) 32).toNat = n at *
       rw [two_pow_int]
       have := pow_le32 n hn
       generalize 2 ^ n = z at *
       omega)
end Go.Proofs.YtnkpohkodkjkfaaGreatDoor
namespace Go.Proofs.YtnkpohkodkjkfaaGreatDoor
open Go.RowKit Go.Shelf Go.Lib

theorem conv_int {P : Program} {src dst : TypeId} {k : IntKind} {n : Int} (k' : IntKind) (m : Int) (hs : (P.underlying src).isSome = true) (hd : P.underlying dst = some (.int k')) (hm : k'.wrap n = m) (w : World) : (convert src dst (.int k n)).run P w = .ok (.int k' m) w := by
  have e : P.intKind dst = k' := by simp [Program.intKind, hd]
  rw [run_convert_int w src dst k n hs (by rw [e]; exact hd), e, hm]


def cells4 (c : Nat → Nat) : Array Value := #[.int .u32 (c 0 : Nat), .int .u32 (c 1 : Nat), .int .u32 (c 2 : Nat), .int .u32 (c 3 : Nat)]
theorem sv_cells (N : Nat) : sv N = .agg (cells4 (wd N)) := rfl
/-- The block b holds these four words. -/
def Holds4 (w : World) (b : Nat) (c : Nat → Nat) : Prop := w.heap[b]? = some (.cells (cells4 c) 24)
theorem cells4_get (c : Nat → Nat) (k : Nat) (h : k < 4) : (cells4 c)[k]? = some (.int .u32 (c k : Nat)) := by
  match k, h with
  | 0, _ => rfl
  | 1, _ => rfl
  | 2, _ => rfl
  | 3, _ => rfl
theorem cells4_set (c : Nat → Nat) (k v : Nat) (h : k < 4) : (cells4 c).setIfInBounds k (.int .u32 (v : Nat)) = cells4 (fun j => if j = k then v else c j) := by
  match k, h with
  | 0, _ => rfl
  | 1, _ => rfl
  | 2, _ => rfl
  | 3, _ => rfl
theorem Holds4.cell {w : World} {b : Nat} {c : Nat → Nat} (h : Holds4 w b c) (k : Nat) (hk : k < 4) : w.cell? ⟨b, k, none⟩ = some (.int .u32 (c k : Nat)) := by
  unfold Holds4 at h
  simp [World.cell?, h, cells4_get c k hk]
theorem idx4 (b k : Nat) (hk : k < 4) (w : World) : (Instr.indexAt 24 (.pointer (some ⟨b, 0, none⟩)) (.int .i64 (k : Int))).run Tryz.prog w = .ok (.pointer (some ⟨b, k, none⟩)) w := by
  have h1 : (k : Int) < 4 := by omega
  have h2 : 0 ≤ (k : Int) := by omega
  go_simp
theorem load4 (w : World) (b k : Nat) (c : Nat → Nat) (h : Holds4 w b c) (hk : k < 4) : (Instr.loadAt 22 (.pointer (some ⟨b, k, none⟩))).run Tryz.prog w = .ok (.int .u32 (c k : Nat)) w := by
  have := h.cell k hk
  go_simp
theorem Holds4.frozen {w : World} {b : Nat} {c : Nat → Nat} (h : Holds4 w b c) (k : Nat) : w.frozen? ⟨b, k, none⟩ = false := by
  unfold Holds4 at h
  simp [World.frozen?, h]
theorem Holds4.set {w : World} {b : Nat} {c : Nat → Nat} (h : Holds4 w b c) (k v : Nat) (hk : k < 4) : Holds4 (w.setCell ⟨b, k, none⟩ (.int .u32 (v : Int))) b (fun j => if j = k then v else c j) := by
  unfold Holds4 at *
  have hlt := (Array.getElem?_eq_some_iff.1 h).1
  rw [← cells4_set c k v hk]
  simp [World.setCell, h, Array.getElem?_modify]
theorem store4 (w : World) (b k v : Nat) (c : Nat → Nat) (h : Holds4 w b c) (hk : k < 4) : ∃ w', (Instr.storeAt 22 (.pointer (some ⟨b, k, none⟩)) (.int .u32 (v : Int))).run Tryz.prog w = .ok () w' ∧ Holds4 w' b (fun j => if j = k then v else c j) ∧ (∀ B, B ≤ b → Below B w w') ∧ (∀ B, B ≠ b → w'.heap[B]? = w.heap[B]?) := by
  have h1 := h.cell k hk
  have h2 := h.frozen k
  refine ⟨w.setCell ⟨b, k, none⟩ (.int .u32 (v : Int)), ?_, h.set k v hk, fun B hB => (Below.refl B w).setCell hB _, fun B hB => Below.heap_setCell _ _ _ _ hB⟩
  go_simp
theorem whole4 (w : World) (b : Nat) (N : Nat) (h : Holds4 w b (wd N)) : (Instr.loadAt 24 (.pointer (some ⟨b, 0, none⟩))).run Tryz.prog w = .ok (sv N) w := by
  have := run_loadVar_row (P := Tryz.prog) w b 24 24 (cells4 (wd N)) (0, 0) _ h Tryz.underlying24 rfl (by kernel_rfl)
  simp only [Instr.loadAt, Instr.sureAddr, Sem.run_bind, Sem.run_pure, Result.andThen_ok, this]
  rfl
end Go.Proofs.YtnkpohkodkjkfaaGreatDoor
