/- tell's small words: refuseIf and the tests of a word: what they answer. -/
import Derived.Test.YtnkpohkodkjkfaaGreatDoorJpJ11
import Derived.Test.YtnkpohkodkjkfaaGreatDoorJpJ8
import Derived.Test.YtnkpohkodkjkfaaGreatDoorJpJ9
import Derived.Laws.BitsAllLaws
import Derived.Lib.BitFns
import Derived.Lib.TrailingZeros
set_option maxHeartbeats 40000000
set_option maxRecDepth 100000
set_option linter.unusedVariables false
namespace Go.Proofs.YtnkpohkodkjkfaaGreatDoor
open Go.RowKit Go.Shelf

/-- A word as a value. -/
def tkV (k : Int) (t : ByteArray) (l c : Int) : Value := .agg #[.int .i64 k, .string t, .int .i64 l, .int .i64 c]
theorem al1t (w : World) (o : Obj) : Below w.heap.size w (w.alloc o) := (Below.refl _ w).alloc (Nat.le_refl _) o
theorem trefuse_no (e k l c : Int) (t : ByteArray) (w : World) : Calls Tryz.prog 48 #[.bool false, .int .i64 e, tkV k t l c] w fun en w' => en = .returned (.tuple #[]) ∧ Below w.heap.size w w' := by
  unfold tkV
  go_enter Tryz.func48, Tryz.ntmps48
  go_wp2
  go_end0
  exact ⟨rfl, al1t w _⟩
theorem isNumber_any (k l c : Int) (t : ByteArray) (w : World) : Calls Tryz.prog 104 #[tkV k t l c] w fun e w' => e = .returned (.bool (k == 3)) ∧ Below w.heap.size w w' := by
  unfold tkV
  go_enter Tryz.func104, Tryz.ntmps104
  go_wp2
  go_ret
  exact ⟨rfl, al1t w _⟩
theorem isEnd_any (k l c : Int) (t : ByteArray) (w : World) : Calls Tryz.prog 53 #[tkV k t l c] w fun e w' => e = .returned (.bool (k == 1)) ∧ Below w.heap.size w w' := by
  unfold tkV
  go_enter Tryz.func53, Tryz.ntmps53
  go_wp2
  go_ret
  exact ⟨rfl, al1t w _⟩
theorem isNone_any (k l c : Int) (t : ByteArray) (w : World) : Calls Tryz.prog 54 #[tkV k t l c] w fun e w' => e = .returned (.bool (k == 0)) ∧ Below w.heap.size w w' := by
  unfold tkV
  go_enter Tryz.func54, Tryz.ntmps54
  go_wp2
  go_ret
  exact ⟨rfl, al1t w _⟩
theorem isMark_any (k l c : Int) (t s : ByteArray) (w : World) : Calls Tryz.prog 129 #[tkV k t l c, .string s] w fun e w' => e = .returned (.bool (k == 5 && t.toList == s.toList)) ∧ Below w.heap.size w w' := by
  unfold tkV
  cases hk : (k == 5) with
  | true =>
    go_enter Tryz.func129, Tryz.ntmps129
    go_wp2
    go_ret
    exact ⟨rfl, al1t w _⟩
  | false =>
    go_enter Tryz.func129, Tryz.ntmps129
    go_wp2
    go_ret
    exact ⟨rfl, al1t w _⟩
theorem isNewsBegin_any (k l c : Int) (t : ByteArray) (w : World) : Calls Tryz.prog 105 #[tkV k t l c] w fun e w' => e = .returned (.bool (k == 5 && t.toList == [91])) ∧ Below w.heap.size w w' := by
  have hm := isMark_any k l c t ⟨#[91]⟩
  unfold tkV at hm ⊢
  rw [show (⟨#[91]⟩ : ByteArray).toList = [91] by kernel_rfl] at hm
  go_enter Tryz.func105, Tryz.ntmps105
  go_wp2_with (go_at_call 129; (with_reducible refine (hm _).mono ?_); rintro e u1 ⟨rfl, hb1⟩)
  go_ret
  exact ⟨rfl, (al1t w _).trans (hb1.mono (by simp))⟩
theorem isNewsEnd_any (k l c : Int) (t : ByteArray) (w : World) : Calls Tryz.prog 107 #[tkV k t l c] w fun e w' => e = .returned (.bool (k == 5 && t.toList == [93])) ∧ Below w.heap.size w w' := by
  have hm := isMark_any k l c t ⟨#[93]⟩
  unfold tkV at hm ⊢
  rw [show (⟨#[93]⟩ : ByteArray).toList = [93] by kernel_rfl] at hm
  go_enter Tryz.func107, Tryz.ntmps107
  go_wp2_with (go_at_call 129; (with_reducible refine (hm _).mono ?_); rintro e u1 ⟨rfl, hb1⟩)
  go_ret
  exact ⟨rfl, (al1t w _).trans (hb1.mono (by simp))⟩
end Go.Proofs.YtnkpohkodkjkfaaGreatDoor
namespace Go.Proofs.YtnkpohkodkjkfaaGreatDoor
open Go.RowKit
section
variable {P : Program} {md : Region.Mode} {ops : Array Oper} {Q : Exit → Act → World → Prop} {X0 : Array Value} {val : Nat → Value} {J J' : World → Prop} {i : Nat} {o : Oper}
end
end Go.Proofs.YtnkpohkodkjkfaaGreatDoor
namespace Go.Proofs.YtnkpohkodkjkfaaGreatDoor
open Go.Lib (popAux)

/-- The word w of a number. -/
def wd (N w : Nat) : Nat := N / 2 ^ (32 * w) % 4294967296
/-- A set's value. -/
def sv (N : Nat) : Value := .agg #[.int .u32 (wd N 0 : Nat), .int .u32 (wd N 1 : Nat), .int .u32 (wd N 2 : Nat), .int .u32 (wd N 3 : Nat)]
def joinW (a b c d : Nat) : Nat := a + 4294967296 * b + 18446744073709551616 * c + 79228162514264337593543950336 * d
def S128 : Nat := 340282366920938463463374607431768211456
def S100 : Nat := 1267650600228229401496703205376
def cln (N : Nat) : Nat := N % S100

theorem wd_lt (N w : Nat) : wd N w < 4294967296 := Nat.mod_lt _ (by decide)
theorem wd_0 (N : Nat) : wd N 0 = N % 4294967296 := by simp [wd]
theorem wd_1 (N : Nat) : wd N 1 = N / 4294967296 % 4294967296 := by simp [wd]
theorem wd_2 (N : Nat) : wd N 2 = N / 18446744073709551616 % 4294967296 := by simp [wd]
theorem wd_3 (N : Nat) : wd N 3 = N / 79228162514264337593543950336 % 4294967296 := by simp [wd]
theorem testBit_wd (N w i : Nat) : (wd N w).testBit i = (decide (i < 32) && N.testBit (32 * w + i)) := by
  rw [wd, show (4294967296 : Nat) = 2 ^ 32 from rfl, Nat.testBit_mod_two_pow, Nat.testBit_div_two_pow, Nat.add_comm i]
theorem wd_mod (N n w : Nat) : wd (N % 2 ^ n) w = wd N w &&& (2 ^ (min (n - 32 * w) 32) - 1) := by
  apply Nat.eq_of_testBit_eq; intro i
  rw [Nat.testBit_and, Nat.testBit_two_pow_sub_one]
  simp only [testBit_wd, Nat.testBit_mod_two_pow]
  by_cases h : i < 32
  · by_cases h2 : 32 * w + i < n
    · have : i < min (n - 32 * w) 32 := by omega
      simp [h, h2, this]
    · have : ¬ i < min (n - 32 * w) 32 := by omega
      simp [h2, this]
  · simp [h]
theorem wd_join0 (a b c d : Nat) (ha : a < 4294967296) : wd (joinW a b c d) 0 = a := by rw [wd_0, joinW]; omega
theorem wd_join1 (a b c d : Nat) (ha : a < 4294967296) (hb : b < 4294967296) : wd (joinW a b c d) 1 = b := by rw [wd_1, joinW]; omega
theorem wd_join2 (a b c d : Nat) (ha : a < 4294967296) (hb : b < 4294967296) (hc : c < 4294967296) : wd (joinW a b c d) 2 = c := by rw [wd_2, joinW]; omega
theorem wd_join3 (a b c d : Nat) (ha : a < 4294967296) (hb : b < 4294967296) (hc : c < 4294967296) (hd : d < 4294967296) : wd (joinW a b c d) 3 = d := by rw [wd_3, joinW]; omega
theorem join_lt (a b c d : Nat) (ha : a < 4294967296) (hb : b < 4294967296) (hc : c < 4294967296) (hd : d < 4294967296) : joinW a b c d < S128 := by rw [joinW, S128]; omega
theorem join_wd (N : Nat) (h : N < S128) : joinW (wd N 0) (wd N 1) (wd N 2) (wd N 3) = N := by
  rw [wd_0, wd_1, wd_2, wd_3, joinW]; rw [S128] at h; omega
theorem ext_wd {N M : Nat} (h : N < S128) (k : M < S128) (h0 : wd N 0 = wd M 0) (h1 : wd N 1 = wd M 1) (h2 : wd N 2 = wd M 2) (h3 : wd N 3 = wd M 3) : N = M := by
  rw [← join_wd N h, ← join_wd M k, h0, h1, h2, h3]
/-! counts -/
theorem popAux_add : ∀ (a b x : Nat), popAux (a + b) x = popAux a x + popAux b (x / 2 ^ a)
  | 0, b, x => by simp [popAux]
  | a + 1, b, x => by
    rw [show a + 1 + b = a + b + 1 by omega, popAux, popAux, popAux_add a b (x / 2), Nat.div_div_eq_div_mul, Nat.pow_succ, Nat.mul_comm 2]
    omega
theorem popAux_mod : ∀ (a x : Nat), popAux a (x % 2 ^ a) = popAux a x
  | 0, x => rfl
  | a + 1, x => by
    have h1 : x % 2 ^ (a + 1) % 2 = x % 2 := by rw [Nat.pow_succ, Nat.mul_comm]; exact Nat.mod_mul_right_mod _ _ _
    have h2 : x % 2 ^ (a + 1) / 2 = x / 2 % 2 ^ a := by rw [Nat.pow_succ, Nat.mul_comm]; exact Nat.mod_mul_right_div_self _ _ _
    rw [popAux, popAux, h1, h2, popAux_mod a (x / 2)]
theorem popAux_le : ∀ (f x : Nat), popAux f x ≤ f
  | 0, x => by simp [popAux]
  | f + 1, x => by rw [popAux]; have := popAux_le f (x / 2); have := Nat.mod_lt x (show 2 > 0 by decide); omega
theorem popAux_succ' (f x : Nat) : popAux (f + 1) x = popAux f x + (x.testBit f).toNat := by
  rw [popAux_add f 1 x]
  congr 1
  rw [popAux, popAux, Nat.testBit_eq_decide_div_mod_eq]
  have := Nat.mod_lt (x / 2 ^ f) (show 2 > 0 by decide)
  rcases (show x / 2 ^ f % 2 = 0 ∨ x / 2 ^ f % 2 = 1 by omega) with h | h <;> rw [h] <;> rfl
def cnt (N : Nat) : Nat := popAux 128 N
theorem cnt_le (a : Nat) : cnt a ≤ 128 := popAux_le 128 a
end Go.Proofs.YtnkpohkodkjkfaaGreatDoor
