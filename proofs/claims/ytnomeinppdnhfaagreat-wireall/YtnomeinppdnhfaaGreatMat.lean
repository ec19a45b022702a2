/- Sets as numbers of 128 bits: words, unions, meets, differences, counts, orders: arithmetic alone, no program. -/
import Derived.Laws.BitsAllLaws
import Derived.Lib.BitFns
import Derived.Lib.TrailingZeros
namespace Go.Proofs.YtnomeinppdnhfaaGreat
open Go.Lib (popAux)

/-- The word w of a number. -/
def wd (N w : Nat) : Nat := N / 2 ^ (32 * w) % 4294967296
def wval (x : Nat) : Value := .int .u32 (x : Int)
/-- A set's value. -/
def sv (N : Nat) : Value := .agg #[.int .u32 (wd N 0 : Nat), .int .u32 (wd N 1 : Nat), .int .u32 (wd N 2 : Nat), .int .u32 (wd N 3 : Nat)]
def joinW (a b c d : Nat) : Nat := a + 4294967296 * b + 18446744073709551616 * c + 79228162514264337593543950336 * d
def S128 : Nat := 340282366920938463463374607431768211456
def S100 : Nat := 1267650600228229401496703205376
def dif (N M : Nat) : Nat := N ^^^ (N &&& M)
def cln (N : Nat) : Nat := N % S100

theorem wd_lt (N w : Nat) : wd N w < 4294967296 := Nat.mod_lt _ (by decide)
theorem wd_0 (N : Nat) : wd N 0 = N % 4294967296 := by simp [wd]
theorem wd_1 (N : Nat) : wd N 1 = N / 4294967296 % 4294967296 := by simp [wd]
theorem wd_2 (N : Nat) : wd N 2 = N / 18446744073709551616 % 4294967296 := by simp [wd]
theorem wd_3 (N : Nat) : wd N 3 = N / 79228162514264337593543950336 % 4294967296 := by simp [wd]
theorem testBit_wd (N w i : Nat) : (wd N w).testBit i = (decide (i < 32) && N.testBit (32 * w + i)) := by
  rw [wd, show (4294967296 : Nat) = 2 ^ 32 from rfl, Nat.testBit_mod_two_pow, Nat.testBit_div_two_pow, Nat.add_comm i]
theorem wd_or (N M w : Nat) : wd (N ||| M) w = wd N w ||| wd M w := by
  apply Nat.eq_of_testBit_eq; intro i
  simp only [testBit_wd, Nat.testBit_or]
  cases decide (i < 32) <;> simp
theorem wd_and (N M w : Nat) : wd (N &&& M) w = wd N w &&& wd M w := by
  apply Nat.eq_of_testBit_eq; intro i
  simp only [testBit_wd, Nat.testBit_and]
  cases decide (i < 32) <;> simp
theorem wd_xor (N M w : Nat) : wd (N ^^^ M) w = wd N w ^^^ wd M w := by
  apply Nat.eq_of_testBit_eq; intro i
  simp only [testBit_wd, Nat.testBit_xor]
  cases decide (i < 32) <;> simp
theorem testBit_dif (N M i : Nat) : (dif N M).testBit i = (N.testBit i && !M.testBit i) := by
  simp only [dif, Nat.testBit_xor, Nat.testBit_and]
  cases N.testBit i <;> cases M.testBit i <;> rfl
theorem testBit_not32 (b i : Nat) (hb : b < 4294967296) : (4294967295 - b).testBit i = (decide (i < 32) && !b.testBit i) := by
  have := Nat.testBit_two_pow_sub_succ (x := b) (n := 32) hb i
  rw [← this]
  congr 1
  omega
theorem wd_dif (N M w : Nat) : wd (dif N M) w = wd N w &&& (4294967295 - wd M w) := by
  apply Nat.eq_of_testBit_eq; intro i
  rw [Nat.testBit_and, testBit_not32 _ _ (wd_lt M w)]
  simp only [testBit_wd, testBit_dif]
  cases decide (i < 32) <;> simp
theorem wd_mod (N n w : Nat) : wd (N % 2 ^ n) w = wd N w &&& (2 ^ (min (n - 32 * w) 32) - 1) := by
  apply Nat.eq_of_testBit_eq; intro i
  rw [Nat.testBit_and, Nat.testBit_two_pow_sub_one]
  simp only [testBit_wd, Nat.testBit_mod_two_pow]
  by_cases h : i < 32
  · by_cases h2 : 32 * w + i < n
    · have : i < min (n - 32 * w) 32 := by omega
      simp [h, h2, this]
    · have : ¬ i < min (n - 32 * w) 32 := by omega
      simp [h2, this]
  · simp [h]
theorem cln_eq (N : Nat) : cln N = N % 2 ^ 100 := rfl
theorem wd_join0 (a b c d : Nat) (ha : a < 4294967296) : wd (joinW a b c d) 0 = a := by rw [wd_0, joinW]; omega
theorem wd_join1 (a b c d : Nat) (ha : a < 4294967296) (hb : b < 4294967296) : wd (joinW a b c d) 1 = b := by rw [wd_1, joinW]; omega
theorem wd_join2 (a b c d : Nat) (ha : a < 4294967296) (hb : b < 4294967296) (hc : c < 4294967296) : wd (joinW a b c d) 2 = c := by rw [wd_2, joinW]; omega
theorem wd_join3 (a b c d : Nat) (ha : a < 4294967296) (hb : b < 4294967296) (hc : c < 4294967296) (hd : d < 4294967296) : wd (joinW a b c d) 3 = d := by rw [wd_3, joinW]; omega
theorem join_lt (a b c d : Nat) (ha : a < 4294967296) (hb : b < 4294967296) (hc : c < 4294967296) (hd : d < 4294967296) : joinW a b c d < S128 := by rw [joinW, S128]; omega
theorem join_wd (N : Nat) (h : N < S128) : joinW (wd N 0) (wd N 1) (wd N 2) (wd N 3) = N := by
  rw [wd_0, wd_1, wd_2, wd_3, joinW]; rw [S128] at h; omega
theorem ext_wd {N M : Nat} (h : N < S128) (k : M < S128) (h0 : wd N 0 = wd M 0) (h1 : wd N 1 = wd M 1) (h2 : wd N 2 = wd M 2) (h3 : wd N 3 = wd M 3) : N = M := by
  rw [← join_wd N h, ← join_wd M k, h0, h1, h2, h3]
theorem or_lt {N M : Nat} (h : N < S128) (k : M < S128) : N ||| M < S128 := Nat.or_lt_two_pow (n := 128) h k
theorem and_lt {N M : Nat} (h : N < S128) : N &&& M < S128 := Nat.lt_of_le_of_lt Nat.and_le_left h
theorem xor_lt {N M : Nat} (h : N < S128) (k : M < S128) : N ^^^ M < S128 := Nat.xor_lt_two_pow (n := 128) h k
theorem dif_lt {N M : Nat} (h : N < S128) : dif N M < S128 := xor_lt h (and_lt h)
theorem cln_lt (N : Nat) : cln N < S100 := Nat.mod_lt _ (by decide)
theorem cln_lt' (N : Nat) : cln N < S128 := Nat.lt_trans (cln_lt N) (by decide)
theorem testBit_cln (N i : Nat) : (cln N).testBit i = (decide (i < 100) && N.testBit i) := by rw [cln_eq, Nat.testBit_mod_two_pow]
theorem cln_cln (N : Nat) : cln (cln N) = cln N := Nat.mod_mod _ _
theorem cln_of_lt {N : Nat} (h : N < S100) : cln N = N := Nat.mod_eq_of_lt h

/-! counts -/
theorem popAux_add : ∀ (a b x : Nat), popAux (a + b) x = popAux a x + popAux b (x / 2 ^ a)
  | 0, b, x => by simp [popAux]
  | a + 1, b, x => by
    rw [show a + 1 + b = a + b + 1 by omega, popAux, popAux, popAux_add a b (x / 2), Nat.div_div_eq_div_mul, Nat.pow_succ, Nat.mul_comm 2]
    omega
theorem popAux_mod : ∀ (a x : Nat), popAux a (x % 2 ^ a) = popAux a x
  | 0, x => rfl
  | a + 1, x => by
    have h1 : x % 2 ^ (a + 1) % 2 = x % 2 := by rw [Nat.pow_succ, Nat.mul_comm]; exact Nat.mod_mul_right_mod _ _ _
    have h2 : x % 2 ^ (a + 1) / 2 = x / 2 % 2 ^ a := by rw [Nat.pow_succ, Nat.mul_comm]; exact Nat.mod_mul_right_div_self _ _ _
    rw [popAux, popAux, h1, h2, popAux_mod a (x / 2)]
theorem popAux_le : ∀ (f x : Nat), popAux f x ≤ f
  | 0, x => by simp [popAux]
  | f + 1, x => by rw [popAux]; have := popAux_le f (x / 2); have := Nat.mod_lt x (show 2 > 0 by decide); omega
theorem popAux_zero : ∀ f, popAux f 0 = 0
  | 0 => rfl
  | f + 1 => by rw [popAux, show 0 / 2 = 0 from rfl, popAux_zero f]
theorem popAux_succ' (f x : Nat) : popAux (f + 1) x = popAux f x + (x.testBit f).toNat := by
  rw [popAux_add f 1 x]
  congr 1
  rw [popAux, popAux, Nat.testBit_eq_decide_div_mod_eq]
  have := Nat.mod_lt (x / 2 ^ f) (show 2 > 0 by decide)
  rcases (show x / 2 ^ f % 2 = 0 ∨ x / 2 ^ f % 2 = 1 by omega) with h | h <;> rw [h] <;> rfl
theorem popAux_or_and : ∀ (f a b : Nat), popAux f (a ||| b) + popAux f (a &&& b) = popAux f a + popAux f b
  | 0, a, b => rfl
  | f + 1, a, b => by
    have := popAux_or_and f a b
    rw [popAux_succ', popAux_succ', popAux_succ', popAux_succ', Nat.testBit_or, Nat.testBit_and]
    cases a.testBit f <;> cases b.testBit f <;> simp <;> omega
theorem popAux_congr : ∀ (f a b : Nat), (∀ i, i < f → a.testBit i = b.testBit i) → popAux f a = popAux f b
  | 0, a, b, _ => rfl
  | f + 1, a, b, h => by rw [popAux_succ', popAux_succ', popAux_congr f a b (fun i hi => h i (by omega)), h f (by omega)]
theorem popAux_flip : ∀ (f a b k : Nat), k < f → (∀ i, i < f → i ≠ k → a.testBit i = b.testBit i) → a.testBit k = false → b.testBit k = true → popAux f b = popAux f a + 1
  | 0, a, b, k, hk, _, _, _ => by omega
  | f + 1, a, b, k, hk, h, h1, h2 => by
    rw [popAux_succ', popAux_succ']
    by_cases e : k = f
    · subst e
      rw [popAux_congr k a b (fun i hi => h i (by omega) (by omega)), h1, h2]; simp
    · rw [popAux_flip f a b k (by omega) (fun i hi hne => h i (by omega) hne) h1 h2, h f (by omega) (by omega)]; omega
def cnt (N : Nat) : Nat := popAux 128 N
theorem cnt_words (N : Nat) : cnt N = popAux 32 (wd N 0) + popAux 32 (wd N 1) + popAux 32 (wd N 2) + popAux 32 (wd N 3) := by
  have m (x : Nat) : popAux 32 (x % 4294967296) = popAux 32 x := popAux_mod 32 x
  rw [cnt, show (128 : Nat) = 32 + (32 + (32 + 32)) from rfl, popAux_add, popAux_add, popAux_add, wd_0, wd_1, wd_2, wd_3, m, m, m, m, Nat.div_div_eq_div_mul, Nat.div_div_eq_div_mul]
  simp only [Nat.reducePow, Nat.reduceMul]
  omega
theorem cnt_or_and (a b : Nat) : cnt (a ||| b) + cnt (a &&& b) = cnt a + cnt b := popAux_or_and 128 a b
theorem cnt_le (a : Nat) : cnt a ≤ 128 := popAux_le 128 a
theorem cnt_congr {a b : Nat} (h : ∀ i, a.testBit i = b.testBit i) : cnt a = cnt b := popAux_congr 128 a b (fun i _ => h i)
theorem cnt_zero : cnt 0 = 0 := popAux_zero 128
end Go.Proofs.YtnomeinppdnhfaaGreat
