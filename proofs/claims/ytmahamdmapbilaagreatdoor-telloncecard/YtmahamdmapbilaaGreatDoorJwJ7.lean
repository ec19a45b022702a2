import Derived.WalkKit
import Derived.WalkSpells
import Derived.Below
import Derived.Shelf.Abstract
import Derived.Lib.OthersKept
import Derived.Maps.AppendAt
import Derived.OwnWalk
import Derived.Carry
import Derived.Deep.WholeRow
import Derived.Test.YtmahamdmapbilaaGreatDoorJwJ5
import Derived.Laws.BitsAll
import Derived.Laws.Shifts
import Derived.Laws.BitsAllLaws
import Derived.Lib.BitFns
import Derived.Lib.TrailingZeros
set_option maxHeartbeats 40000000
set_option maxRecDepth 100000
set_option linter.unusedVariables false
namespace Go.Proofs.YtmahamdmapbilaaGreatDoor
open Go.RowKit
theorem zna {w : World} {o : Obj} {k : Nat} (h : k = w.heap.size) : (w.alloc o).heap[k]? = some o := by subst h; exact heap_alloc_last w o
theorem zoa {w : World} {o o' : Obj} {k : Nat} (h : w.heap[k]? = some o') : (w.alloc o).heap[k]? = some o' := (Below.heap_alloc w o k (Array.getElem?_eq_some_iff.1 h).1).trans h
theorem zca {W : World} {B : Nat} {cs : Array Value} {t : TypeId} {z : Nat × Nat} (h : W.heap[B]? = some (.cells cs t z)) (j : Nat) : W.cell? ⟨B, j, none⟩ = cs[j]? := by simp [World.cell?, h]
theorem zta {W : World} {B : Nat} {cs : Array Value} {t : TypeId} (h : W.heap[B]? = some (.cells cs t (0, 0))) (j : Nat) : W.frozen? ⟨B, j, none⟩ = false := by simp [World.frozen?, h]
theorem zla {W : World} {B : Nat} {o : Obj} (h : W.heap[B]? = some o) : B < W.heap.size := (Array.getElem?_eq_some_iff.1 h).1
theorem zfa {P : Program} {md : Region.Mode} {ops : Array Oper} {Q : Exit → Act → World → Prop} {X0 : Array Value} {val : Nat → Value} {J : World → Prop} {i : Nat} {o : Oper} (hi : ops[i]? = some o) (hg : GOk md ops X0 val i o) (t : TypeId) (x : Operand) (f : Nat) (p : Value) (ho : o.op = .fieldAddr t x f) (hx : rdo md ops X0 val i o x = some p) (hr : ∀ w, J w → (Instr.fieldAt t p f).run P w = .ok (val i) w) : StepAt P md ops Q X0 val J J i o :=
 step_of hi hg fun a w hJ hS => by
  unfold Oper.wp execOp
  simp only [ho, hS.eval hx, Sem.run_bind, hr w hJ, Result.andThen_ok, Sem.run_pure, Oper.upon_value]
  exact ⟨trivial, hJ⟩
section
variable {P : Program} {md : Region.Mode} {ops : Array Oper} {Q : Exit → Act → World → Prop} {X0 : Array Value} {val : Nat → Value} {J J' : World → Prop} {i : Nat} {o : Oper}
end
section
variable {P : Program} {t : TypeId} {x y : Operand} {w : World}
theorem bin_sub64 (a b c : Int) (h : IntKind.i64.wrap (a - b) = c) : binRun P .sub t x y (.int .i64 a) (.int .i64 b) w = .ok (.int .i64 c) w := by subst h; simp [binRun, go_sem, Op.intArith]
theorem bin_mul64 (a b c : Int) (h : IntKind.i64.wrap (a * b) = c) : binRun P .mul t x y (.int .i64 a) (.int .i64 b) w = .ok (.int .i64 c) w := by subst h; simp [binRun, go_sem, Op.intArith]
theorem bin_and32 (a b : Nat) (ha : a < 4294967296) (hb : b < 4294967296) : binRun P .and t x y (.int .u32 (a : Int)) (.int .u32 (b : Int)) w = .ok (.int .u32 ((a &&& b : Nat) : Int)) w := by
 rw [← u32_and_nat a b ha hb]; simp [binRun, go_sem]
theorem bin_or32 (a b : Nat) (ha : a < 4294967296) (hb : b < 4294967296) : binRun P .or t x y (.int .u32 (a : Int)) (.int .u32 (b : Int)) w = .ok (.int .u32 ((a ||| b : Nat) : Int)) w := by
 rw [← u32_or_nat a b ha hb]; simp [binRun, go_sem]
theorem bin_quo64 (a b : Nat) (ha : a < 9223372036854775808) (hb : 0 < b) : binRun P .quo t x y (.int .i64 (a : Int)) (.int .i64 (b : Int)) w = .ok (.int .i64 ((a / b : Nat) : Int)) w := by
 have e : ¬ b = 0 := by omega
 have h3 : IntKind.i64.wrap ((a : Int) / (b : Int)) = (a : Int) / (b : Int) := by
  have h4 : (a : Int) / (b : Int) = ((a / b : Nat) : Int) := by simp
  have : a / b ≤ a := Nat.div_le_self _ _
  rw [h4, IntKind.wrap_i64]
  generalize a / b = z at *
  omega
 simp [binRun, go_sem, Op.intDiv, e, h3]
theorem bin_neq (k : IntKind) (a b : Int) : binRun P .neq t x y (.int k a) (.int k b) w = .ok (.bool (a != b)) w := by simp [binRun, go_sem]
theorem bin_leq (k : IntKind) (a b : Int) : binRun P .leq t x y (.int k a) (.int k b) w = .ok (.bool (decide (a ≤ b))) w := by simp [binRun, go_sem]
end
end Go.Proofs.YtmahamdmapbilaaGreatDoor
namespace Go.Proofs.YtmahamdmapbilaaGreatDoor
open Go.Lib (popAux)
def wd (N w : Nat) : Nat := N / 2 ^ (32 * w) % 4294967296
def sv (N : Nat) : Value := .agg #[.int .u32 (wd N 0 : Nat), .int .u32 (wd N 1 : Nat), .int .u32 (wd N 2 : Nat), .int .u32 (wd N 3 : Nat)]
def joinW (a b c d : Nat) : Nat := a + 4294967296 * b + 18446744073709551616 * c + 79228162514264337593543950336 * d
def S128 : Nat := 340282366920938463463374607431768211456
def S100 : Nat := 1267650600228229401496703205376
def cln (N : Nat) : Nat := N % S100
theorem wd_lt (N w : Nat) : wd N w < 4294967296 := Nat.mod_lt _ (by decide)
theorem wd_0 (N : Nat) : wd N 0 = N % 4294967296 := by simp [wd]
theorem wd_1 (N : Nat) : wd N 1 = N / 4294967296 % 4294967296 := by simp [wd]
theorem wd_2 (N : Nat) : wd N 2 = N / 18446744073709551616 % 4294967296 := by simp [wd]
theorem wd_3 (N : Nat) : wd N 3 = N / 79228162514264337593543950336 % 4294967296 := by simp [wd]
theorem testBit_wd (N w i : Nat) : (wd N w).testBit i = (decide (i < 32) && N.testBit (32 * w + i)) := by
 rw [wd, show (4294967296 : Nat) = 2 ^ 32 from rfl, Nat.testBit_mod_two_pow, Nat.testBit_div_two_pow, Nat.add_comm i]
theorem wd_mod (N n w : Nat) : wd (N % 2 ^ n) w = wd N w &&& (2 ^ (min (n - 32 * w) 32) - 1) := by
 apply Nat.eq_of_testBit_eq; intro i
 rw [Nat.testBit_and, Nat.testBit_two_pow_sub_one]
 simp only [testBit_wd, Nat.testBit_mod_two_pow]
 by_cases h : i < 32
 · by_cases h2 : 32 * w + i < n
   · have : i < min (n - 32 * w) 32 := by omega
     simp [h, h2, this]
   · have : ¬ i < min (n - 32 * w) 32 := by omega
     simp [h2, this]
 · simp [h]
theorem join_wd (N : Nat) (h : N < S128) : joinW (wd N 0) (wd N 1) (wd N 2) (wd N 3) = N := by
 rw [wd_0, wd_1, wd_2, wd_3, joinW]; rw [S128] at h; omega
theorem ext_wd {N M : Nat} (h : N < S128) (k : M < S128) (h0 : wd N 0 = wd M 0) (h1 : wd N 1 = wd M 1) (h2 : wd N 2 = wd M 2) (h3 : wd N 3 = wd M 3) : N = M := by
 rw [← join_wd N h, ← join_wd M k, h0, h1, h2, h3]
theorem popAux_add : ∀ (a b x : Nat), popAux (a + b) x = popAux a x + popAux b (x / 2 ^ a)
 | 0, b, x => by simp [popAux]
 | a + 1, b, x => by
  rw [show a + 1 + b = a + b + 1 by omega, popAux, popAux, popAux_add a b (x / 2), Nat.div_div_eq_div_mul, Nat.pow_succ, Nat.mul_comm 2]
  omega
theorem popAux_mod : ∀ (a x : Nat), popAux a (x % 2 ^ a) = popAux a x
 | 0, x => rfl
 | a + 1, x => by
  have h1 : x % 2 ^ (a + 1) % 2 = x % 2 := by rw [Nat.pow_succ, Nat.mul_comm]; exact Nat.mod_mul_right_mod _ _ _
  have h2 : x % 2 ^ (a + 1) / 2 = x / 2 % 2 ^ a := by rw [Nat.pow_succ, Nat.mul_comm]; exact Nat.mod_mul_right_div_self _ _ _
  rw [popAux, popAux, h1, h2, popAux_mod a (x / 2)]
theorem popAux_le : ∀ (f x : Nat), popAux f x ≤ f
 | 0, x => by simp [popAux]
 | f + 1, x => by rw [popAux]; have := popAux_le f (x / 2); have := Nat.mod_lt x (show 2 > 0 by decide); omega
theorem popAux_succ' (f x : Nat) : popAux (f + 1) x = popAux f x + (x.testBit f).toNat := by
 rw [popAux_add f 1 x]
 congr 1
 rw [popAux, popAux, Nat.testBit_eq_decide_div_mod_eq]
 have := Nat.mod_lt (x / 2 ^ f) (show 2 > 0 by decide)
 rcases (show x / 2 ^ f % 2 = 0 ∨ x / 2 ^ f % 2 = 1 by omega) with h | h <;> rw [h] <;> rfl
def cnt (N : Nat) : Nat := popAux 128 N
theorem cnt_le (a : Nat) : cnt a ≤ 128 := popAux_le 128 a
end Go.Proofs.YtmahamdmapbilaaGreatDoor
