/- idset.lowest, bit, isId; math/bits.OnesCount32: what they answer, at every input. -/
import Derived.Test.YtnomeinppdnhfaaGreatProg
import Derived.Test.YtnomeinppdnhfaaGreatMat
import Derived.Test.YtnomeinppdnhfaaGreatReg
import Derived.Shelf.Abstract
import Derived.Laws.BitsAll
import Derived.Laws.Shifts
namespace Go.Proofs.YtnomeinppdnhfaaGreat
open Go.RowKit Go.Shelf Go.Lib
attribute [local go_sem] Oper.semAt_some

theorem ret_int {k : IntKind} {a b : Int} (h : a = b) : Ending.returned (.int k a) = .returned (.int k b) := by rw [h]
theorem ret_bool {a b : Bool} (h : a = b) : Ending.returned (.bool a) = .returned (.bool b) := by rw [h]
def lowN (k : Int) : Nat := 2 ^ (min (max k 0) 32).toNat - 1
theorem two_pow_int (n : Nat) : (2 : Int) ^ n = ((2 ^ n : Nat) : Int) := by simp
theorem pow_le32 (n : Nat) (h : n ≤ 32) : 1 ≤ 2 ^ n ∧ 2 ^ n ≤ 4294967296 := ⟨Nat.one_le_two_pow, Nat.pow_le_pow_right (n := 2) (j := 32) (by decide) h⟩
theorem lowN_lt (k : Int) : lowN k < 4294967296 := by
  unfold lowN
  have := pow_le32 (min (max k 0) 32).toNat (by omega)
  omega
set_option maxHeartbeats 1000000 in
theorem lowest_any (k : Int) (w : World) : Calls Tryz.prog 120 #[.int .i64 k] w fun e w' => e = .returned (.int .u32 (lowN k : Nat)) ∧ w' = w := by
  go_enter Tryz.func120, Tryz.ntmps120
  go_wp2
  all_goals
    go_ret
    refine ⟨ret_int ?_, rfl⟩
    unfold lowN
    first
    | (rw [show (min (max k 0) 32) = 32 by omega]; rfl)
    | (rw [show (min (max k 0) 32) = 0 by omega]; rfl)
    | (rw [show (min (max k 0) 32) = k by omega, two_pow_int]
       have := pow_le32 k.toNat (by omega)
       generalize 2 ^ k.toNat = z at *
       omega)
end Go.Proofs.YtnomeinppdnhfaaGreat
