/- idset.Full, With, Without: what they answer, at every input. -/
import Derived.Test.YtnomeinppdnhfaaGreatSla
namespace Go.Proofs.YtnomeinppdnhfaaGreat
open Go.RowKit Go.Shelf Go.Lib

def fullN (n : Nat) : Nat := 2 ^ n - 1
theorem testBit_full (n i : Nat) : (fullN n).testBit i = decide (i < n) := by rw [fullN, Nat.testBit_two_pow_sub_one]
theorem wd_full (n k : Nat) : wd (fullN n) k = lowN ((n : Int) - (k : Int) * 32) := by
  apply Nat.eq_of_testBit_eq; intro i
  rw [testBit_wd, testBit_full, lowN, Nat.testBit_two_pow_sub_one]
  by_cases h : i < 32
  · have e : (32 * k + i < n) = (i < (min (max ((n : Int) - (k : Int) * 32) 0) 32).toNat) := by simp; omega
    simp [h, e]
  · have e : ¬ (i < (min (max ((n : Int) - (k : Int) * 32) 0) 32).toNat) := by omega
    simp [h, e]
theorem mix_full (c : Nat → Nat) (k j : Nat) : (if j = k then c k else if j < k then c j else 0) = if j < k + 1 then c j else 0 := by
  by_cases q : j = k
  · subst q; simp
  · by_cases q2 : j < k
    · rw [if_neg q, if_pos q2, if_pos (by omega)]
    · rw [if_neg q, if_neg q2, if_neg (by omega)]
def fullV (n : Int) : Value := if 0 ≤ n ∧ n ≤ 100 then .tuple #[sv (fullN n.toNat), .int .i64 0] else .tuple #[sv 0, .int .i64 1]
theorem wd_zero (j : Nat) : wd 0 j = 0 := by simp [wd]
theorem wd_pow (i j : Nat) : wd (2 ^ i) j = if j = i / 32 then 2 ^ (i % 32) else 0 := by
  have := wd_bit 0 i j
  simpa [wd_zero] using this
theorem wd_less (N i j : Nat) : wd (dif N (2 ^ i)) j = if j = i / 32 then wd N j &&& (4294967295 - 2 ^ (i % 32)) else wd N j := by
  rw [wd_dif, wd_pow]
  split
  · rfl
  · rw [Nat.sub_zero, show (4294967295 : Nat) = 2 ^ 32 - 1 from rfl, Nat.and_two_pow_sub_one_eq_mod]
    exact Nat.mod_eq_of_lt (wd_lt N j)
def withV (N : Nat) (id : Int) : Value := if 0 ≤ id ∧ id < 100 then .tuple #[sv (cln N ||| 2 ^ id.toNat), .int .i64 0] else .tuple #[sv 0, .int .i64 30]
theorem pow_bit (i : Nat) : 2 ^ (i % 32) < 4294967296 := Nat.pow_lt_pow_right (a := 2) (n := 32) (by decide) (Nat.mod_lt _ (by decide))
end Go.Proofs.YtnomeinppdnhfaaGreat
