/- errors.as and errors.As at the node's two targets: what they answer. -/
import Derived.Test.YtklnfbanfgdgcaaGreatDoorJnJ1
import Derived.Laws.BitsAllLaws
import Derived.Lib.BitFns
import Derived.Lib.TrailingZeros
import Derived.Test.YtklnfbanfgdgcaaGreatDoorProg
import Derived.Test.YtklnfbanfgdgcaaGreatDoorJnJ0
import Derived.Shelf.Abstract
import Derived.Laws.BitsAll
import Derived.Laws.Shifts
set_option maxHeartbeats 40000000
set_option maxRecDepth 100000
set_option linter.unusedVariables false
namespace Go.Proofs.YtklnfbanfgdgcaaGreatDoor
open Go.RowKit Go.Extern.Stop Go.Stop Go.Extern Go.Lib
attribute [local go_sem] Oper.semAt_some

end Go.Proofs.YtklnfbanfgdgcaaGreatDoor
namespace Go.Proofs.YtklnfbanfgdgcaaGreatDoor
open Go.RowKit Go.Extern.Stop Go.Stop Go.Extern Go.Lib
attribute [local go_sem] Oper.semAt_some

end Go.Proofs.YtklnfbanfgdgcaaGreatDoor
namespace Go.Proofs.YtklnfbanfgdgcaaGreatDoor
open Go.Lib (popAux)

/-- The word w of a number. -/
def wd (N w : Nat) : Nat := N / 2 ^ (32 * w) % 4294967296
/-- A set's value. -/
def sv (N : Nat) : Value := .agg #[.int .u32 (wd N 0 : Nat), .int .u32 (wd N 1 : Nat), .int .u32 (wd N 2 : Nat), .int .u32 (wd N 3 : Nat)]
def joinW (a b c d : Nat) : Nat := a + 4294967296 * b + 18446744073709551616 * c + 79228162514264337593543950336 * d
def S128 : Nat := 340282366920938463463374607431768211456
def S100 : Nat := 1267650600228229401496703205376
def cln (N : Nat) : Nat := N % S100

theorem wd_lt (N w : Nat) : wd N w < 4294967296 := Nat.mod_lt _ (by decide)
theorem wd_0 (N : Nat) : wd N 0 = N % 4294967296 := by simp [wd]
theorem wd_1 (N : Nat) : wd N 1 = N / 4294967296 % 4294967296 := by simp [wd]
theorem wd_2 (N : Nat) : wd N 2 = N / 18446744073709551616 % 4294967296 := by simp [wd]
theorem wd_3 (N : Nat) : wd N 3 = N / 79228162514264337593543950336 % 4294967296 := by simp [wd]
theorem testBit_wd (N w i : Nat) : (wd N w).testBit i = (decide (i < 32) && N.testBit (32 * w + i)) := by
  rw [wd, show (4294967296 : Nat) = 2 ^ 32 from rfl, Nat.testBit_mod_two_pow, Nat.testBit_div_two_pow, Nat.add_comm i]
theorem wd_mod (N n w : Nat) : wd (N % 2 ^ n) w = wd N w &&& (2 ^ (min (n - 32 * w) 32) - 1) := by
  apply Nat.eq_of_testBit_eq; intro i
  rw [Nat.testBit_and, Nat.testBit_two_pow_sub_one]
  simp only [testBit_wd, Nat.testBit_mod_two_pow]
  by_cases h : i < 32
  · by_cases h2 : 32 * w + i < n
    · have : i < min (n - 32 * w) 32 := by omega
      simp [h, h2, this]
    · have : ¬ i < min (n - 32 * w) 32 := by omega
      simp [h2, this]
  · simp [h]
theorem cln_eq (N : Nat) : cln N = N % 2 ^ 100 := rfl
theorem join_wd (N : Nat) (h : N < S128) : joinW (wd N 0) (wd N 1) (wd N 2) (wd N 3) = N := by
  rw [wd_0, wd_1, wd_2, wd_3, joinW]; rw [S128] at h; omega
theorem ext_wd {N M : Nat} (h : N < S128) (k : M < S128) (h0 : wd N 0 = wd M 0) (h1 : wd N 1 = wd M 1) (h2 : wd N 2 = wd M 2) (h3 : wd N 3 = wd M 3) : N = M := by
  rw [← join_wd N h, ← join_wd M k, h0, h1, h2, h3]
theorem testBit_cln (N i : Nat) : (cln N).testBit i = (decide (i < 100) && N.testBit i) := by rw [cln_eq, Nat.testBit_mod_two_pow]
theorem cln_of_lt {N : Nat} (h : N < S100) : cln N = N := Nat.mod_eq_of_lt h

/-! counts -/
end Go.Proofs.YtklnfbanfgdgcaaGreatDoor
namespace Go.Proofs.YtklnfbanfgdgcaaGreatDoor
open Go.RowKit Go.Shelf Go.Lib
attribute [local go_sem] Oper.semAt_some

theorem ret_int {k : IntKind} {a b : Int} (h : a = b) : Ending.returned (.int k a) = .returned (.int k b) := by rw [h]
theorem ret_bool {a b : Bool} (h : a = b) : Ending.returned (.bool a) = .returned (.bool b) := by rw [h]
def lowN (k : Int) : Nat := 2 ^ (min (max k 0) 32).toNat - 1
theorem two_pow_int (n : Nat) : (2 : Int) ^ n = ((2 ^ n : Nat) : Int) := by simp
theorem pow_le32 (n : Nat) (h : n ≤ 32) : 1 ≤ 2 ^ n ∧ 2 ^ n ≤ 4294967296 := ⟨Nat.one_le_two_pow, Nat.pow_le_pow_right (n := 2) (j := 32) (by decide) h⟩
theorem lowN_lt (k : Int) : lowN k < 4294967296 := by
  unfold lowN
  have := pow_le32 (min (max k 0) 32).toNat (by omega)
  omega
set_option maxHeartbeats 1000000 in
theorem lowest_any (k : Int) (w : World) : Calls Tryz.prog 118 #[.int .i64 k] w fun e w' => e = .returned (.int .u32 (lowN k : Nat)) ∧ w' = w := by
  go_enter Tryz.func118, Tryz.ntmps118
  go_wp2
  all_goals
    go_ret
    refine ⟨ret_int ?_, rfl⟩
    unfold lowN
    first
    | (rw [show (min (max k 0) 32) = 32 by omega]; rfl)
    | (rw [show (min (max k 0) 32) = 0 by omega]; rfl)
    | (rw [show (min (max k 0) 32) = k by omega, two_pow_int]
       have := pow_le32 k.toNat (by omega)
       generalize 2 ^ k.toNat = z at *
       omega)
    | (have hn : (min (max k 0) 32).toNat ≤ 32 := by omega
       generalize (min (max k 0) 32).toNat = n at *
       rw [two_pow_int]
       have := pow_le32 n hn
       generalize 2 ^ n = z at *
       omega)
set_option maxHeartbeats 1000000 in
theorem bit_any (k : Nat) (h : k < 128) (w : World) : Calls Tryz.prog 225 #[.int .i64 (k : Int)] w fun e w' => e = .returned (.int .u32 ((2 ^ (k % 32) : Nat) : Int)) ∧ w' = w := by
  go_enter Tryz.func225, Tryz.ntmps225
  go_wp2
  go_ret
  refine ⟨ret_int ?_, rfl⟩
  have h1 := pow_le32 (k % 32) (by omega)
  have h2 : 2 ^ (k % 32) ≤ 2 ^ 31 := Nat.pow_le_pow_right (by decide) (by omega)
  simp only [two_pow_int]
  generalize 2 ^ (k % 32) = z at *
  omega
set_option maxHeartbeats 1000000 in
theorem isId_any (k : Int) (w : World) : Calls Tryz.prog 223 #[.int .i64 k] w fun e w' => e = .returned (.bool (decide (0 ≤ k ∧ k < 100))) ∧ w' = w := by
  go_enter Tryz.func223, Tryz.ntmps223
  go_wp2
  all_goals
    go_ret
    refine ⟨ret_bool ?_, rfl⟩
    first
    | (have h : 0 ≤ k := by omega
       simp [h])
    | (have h : ¬ 0 ≤ k := by omega
       simp [h])
end Go.Proofs.YtklnfbanfgdgcaaGreatDoor
