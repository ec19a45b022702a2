/- Runs of single operations on numbers, for every program: as the table of values asks them. -/
import Derived.Test.YtngjjcmoekeciaaGreatDoorReg
import Derived.Laws.BitsAll
import Derived.Laws.Shifts
namespace Go.Proofs.YtngjjcmoekeciaaGreatDoor
open Go.RowKit
section
variable {P : Program} {t : TypeId} {x y : Operand} {w : World}
theorem bin_add64 (a b c : Int) (h : IntKind.i64.wrap (a + b) = c) : binRun P .add t x y (.int .i64 a) (.int .i64 b) w = .ok (.int .i64 c) w := by subst h; simp [binRun, go_sem, Op.intArith]
theorem bin_sub64 (a b c : Int) (h : IntKind.i64.wrap (a - b) = c) : binRun P .sub t x y (.int .i64 a) (.int .i64 b) w = .ok (.int .i64 c) w := by subst h; simp [binRun, go_sem, Op.intArith]
theorem bin_mul64 (a b c : Int) (h : IntKind.i64.wrap (a * b) = c) : binRun P .mul t x y (.int .i64 a) (.int .i64 b) w = .ok (.int .i64 c) w := by subst h; simp [binRun, go_sem, Op.intArith]
theorem bin_add8 (a b c : Int) (h : IntKind.u8.wrap (a + b) = c) : binRun P .add t x y (.int .u8 a) (.int .u8 b) w = .ok (.int .u8 c) w := by subst h; simp [binRun, go_sem, Op.intArith]
theorem bin_sub32 (a b c : Int) (h : IntKind.u32.wrap (a - b) = c) : binRun P .sub t x y (.int .u32 a) (.int .u32 b) w = .ok (.int .u32 c) w := by subst h; simp [binRun, go_sem, Op.intArith]
theorem bin_and32 (a b : Nat) (ha : a < 4294967296) (hb : b < 4294967296) : binRun P .and t x y (.int .u32 (a : Int)) (.int .u32 (b : Int)) w = .ok (.int .u32 ((a &&& b : Nat) : Int)) w := by
  rw [← u32_and_nat a b ha hb]; simp [binRun, go_sem]
theorem bin_or32 (a b : Nat) (ha : a < 4294967296) (hb : b < 4294967296) : binRun P .or t x y (.int .u32 (a : Int)) (.int .u32 (b : Int)) w = .ok (.int .u32 ((a ||| b : Nat) : Int)) w := by
  rw [← u32_or_nat a b ha hb]; simp [binRun, go_sem]
theorem bin_xor32 (a b : Nat) (ha : a < 4294967296) (hb : b < 4294967296) : binRun P .xor t x y (.int .u32 (a : Int)) (.int .u32 (b : Int)) w = .ok (.int .u32 ((a ^^^ b : Nat) : Int)) w := by
  rw [← u32_xor_nat a b ha hb]; simp [binRun, go_sem]
theorem bin_andNot32 (a b : Nat) (ha : a < 4294967296) (hb : b < 4294967296) : binRun P .andNot t x y (.int .u32 (a : Int)) (.int .u32 (b : Int)) w = .ok (.int .u32 ((a &&& (4294967295 - b) : Nat) : Int)) w := by
  rw [← u32_andNot_nat a b ha hb]; simp [binRun, go_sem]
theorem bin_shr32 (k : IntKind) (a n : Nat) (hn : n < 32) : binRun P .shr t x y (.int .u32 (a : Int)) (.int k (n : Int)) w = .ok (.int .u32 ((a / 2 ^ n : Nat) : Int)) w := by
  have h := shift_shr .u32 k (a : Int) (n : Int) (by omega) (by simp [IntKind.bits]; omega)
  simp only [binRun, eqGuard_shr, binOp_shr, h]
  simp
theorem bin_shl32 (k : IntKind) (n : Nat) (hn : n < 32) : binRun P .shl t x y (.int .u32 1) (.int k (n : Int)) w = .ok (.int .u32 ((2 ^ n : Nat) : Int)) w := by
  have h := shift_shl .u32 k 1 (n : Int) (by omega) (by simp [IntKind.bits]; omega)
  have h2 : 2 ^ n < 4294967296 := Nat.pow_lt_pow_right (a := 2) (n := 32) (by decide) hn
  have h3 : IntKind.u32.wrap (1 * 2 ^ (n : Int).toNat) = ((2 ^ n : Nat) : Int) := by
    have e : (2 : Int) ^ n = ((2 ^ n : Nat) : Int) := by simp
    rw [Int.toNat_natCast, e, IntKind.wrap_u32']
    generalize 2 ^ n = z at *
    omega
  simp only [binRun, eqGuard_shl, binOp_shl, h, h3]
  simp
theorem bin_quo64 (a b : Nat) (ha : a < 9223372036854775808) (hb : 0 < b) : binRun P .quo t x y (.int .i64 (a : Int)) (.int .i64 (b : Int)) w = .ok (.int .i64 ((a / b : Nat) : Int)) w := by
  have e : ¬ b = 0 := by omega
  have h3 : IntKind.i64.wrap ((a : Int) / (b : Int)) = (a : Int) / (b : Int) := by
    have h4 : (a : Int) / (b : Int) = ((a / b : Nat) : Int) := by simp
    have : a / b ≤ a := Nat.div_le_self _ _
    rw [h4, IntKind.wrap_i64]
    generalize a / b = z at *
    omega
  simp [binRun, go_sem, Op.intDiv, e, h3]
theorem bin_rem64 (a b : Nat) (hb : 0 < b) : binRun P .rem t x y (.int .i64 (a : Int)) (.int .i64 (b : Int)) w = .ok (.int .i64 ((a % b : Nat) : Int)) w := by
  have e : ¬ b = 0 := by omega
  have h4 : (a : Int).tmod (b : Int) = (a : Int) % (b : Int) := Int.tmod_eq_emod_of_nonneg (by omega)
  simp [binRun, go_sem, Op.intDiv, e, h4]
theorem bin_eql (k : IntKind) (a b : Int) : binRun P .eql t x y (.int k a) (.int k b) w = .ok (.bool (a == b)) w := by simp [binRun, go_sem]
theorem bin_neq (k : IntKind) (a b : Int) : binRun P .neq t x y (.int k a) (.int k b) w = .ok (.bool (a != b)) w := by simp [binRun, go_sem]
theorem bin_lss (k : IntKind) (a b : Int) : binRun P .lss t x y (.int k a) (.int k b) w = .ok (.bool (decide (a < b))) w := by simp [binRun, go_sem]
theorem bin_leq (k : IntKind) (a b : Int) : binRun P .leq t x y (.int k a) (.int k b) w = .ok (.bool (decide (a ≤ b))) w := by simp [binRun, go_sem]
theorem bin_gtr (k : IntKind) (a b : Int) : binRun P .gtr t x y (.int k a) (.int k b) w = .ok (.bool (decide (a > b))) w := by simp [binRun, go_sem]
theorem bin_geq (k : IntKind) (a b : Int) : binRun P .geq t x y (.int k a) (.int k b) w = .ok (.bool (decide (a ≥ b))) w := by simp [binRun, go_sem]
end
end Go.Proofs.YtngjjcmoekeciaaGreatDoor
