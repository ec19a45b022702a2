/- idset.Has, Of; alive: what they answer, at every input. -/
import Derived.Test.YtnomeinppdnhfaaGreatOrd
namespace Go.Proofs.YtnomeinppdnhfaaGreat
open Go.RowKit Go.Shelf Go.Lib

theorem and_bit (x i : Nat) : (x &&& 2 ^ i != 0) = x.testBit i := by
  cases h : x.testBit i with
  | true =>
    have : (x &&& 2 ^ i).testBit i = true := by rw [Nat.testBit_and, h, Nat.testBit_two_pow_self]; rfl
    have h2 : x &&& 2 ^ i ≠ 0 := fun e => by rw [e, Nat.zero_testBit] at this; cases this
    simpa using h2
  | false =>
    have : x &&& 2 ^ i = 0 := by
      apply Nat.eq_of_testBit_eq; intro j
      rw [Nat.testBit_and, Nat.testBit_two_pow, Nat.zero_testBit]
      by_cases e : i = j
      · subst e; rw [h]; rfl
      · simp [e]
    simp [this]
theorem bit_word (N i : Nat) : (wd N (i / 32)).testBit (i % 32) = N.testBit i := by
  rw [testBit_wd, Nat.div_add_mod]
  have := Nat.mod_lt i (show 32 > 0 by decide)
  simp [this]
theorem wd_bit (N i j : Nat) : wd (N ||| 2 ^ i) j = if j = i / 32 then wd N j ||| 2 ^ (i % 32) else wd N j := by
  apply Nat.eq_of_testBit_eq; intro b
  rw [testBit_wd, Nat.testBit_or, Nat.testBit_two_pow]
  split
  · rename_i h
    subst h
    rw [Nat.testBit_or, testBit_wd, Nat.testBit_two_pow]
    by_cases hb : b < 32
    · have e : (i = 32 * (i / 32) + b) = (i % 32 = b) := by simp; omega
      simp [hb, e]
    · have e : ¬ i % 32 = b := by omega
      simp [hb, e]
  · rename_i h
    rw [testBit_wd]
    by_cases hb : b < 32
    · have e : ¬ i = 32 * j + b := by omega
      simp [hb, e]
    · simp [hb]
theorem int_bne0 (a : Nat) : ((a : Int) != 0) = (a != 0) := by
  by_cases h : a = 0
  · subst h; rfl
  · have h2 : ¬ (a : Int) = 0 := by omega
    simp only [bne, beq_eq_false_iff_ne.2 h, beq_eq_false_iff_ne.2 h2]
def hasB (N : Nat) (id : Int) : Bool := decide (0 ≤ id ∧ id < 100) && N.testBit id.toNat

/-- The set of a list of ids; none: one of them is no id. -/
def ofN : List Int → Nat → Option Nat
  | [], N => some N
  | i :: r, N => if 0 ≤ i ∧ i < 100 then ofN r (N ||| 2 ^ i.toNat) else none
def ofV (o : Option Nat) : Value := match o with | some N => .tuple #[sv N, .int .i64 0] | none => .tuple #[sv 0, .int .i64 30]
/-- A slice of numbers lies in memory. -/
structure Ints (W : World) (a : Addr) (ids : List Int) : Prop where
  spot : a.spot = none
  cell : ∀ (k : Nat) (x : Int), ids[k]? = some x → W.cell? ⟨a.block, a.off + k, none⟩ = some (.int .i64 x)
  lt : a.block < W.heap.size
theorem Ints.keep {W W' : World} {a : Addr} {ids : List Int} (h : Ints W a ids) (hb : Below W.heap.size W W') : Ints W' a ids :=
  ⟨h.spot, fun k x hx => (hb.cell (p := ⟨a.block, a.off + k, none⟩) h.lt).trans (h.cell k x hx), Nat.lt_of_lt_of_le h.lt hb.size⟩
theorem ret4t {f : Func} {p q : Tmp} {R : Ending → World → Prop} {a : Act} {w : World} {b M : Nat} {x : Value} (hres : f.results = #[.cell p 41, .tmp q]) (hp : a.tmps.getD p undef = .pointer (some ⟨b, 0, none⟩)) (hq : a.tmps.getD q undef = x) (hd : a.defers = []) (h : Holds4 w b (wd M)) (hR : R (.returned (.tuple #[sv M, x])) w) : bodyPost Tryz.prog f R .ret a w := by
  refine bodyPost_ret (v := .tuple #[sv M, x]) ?_ hd hR
  have h1 := run_loadVar_row (P := Tryz.prog) w b 41 41 (cells4 (wd M)) (0, 0) _ h Tryz.underlying41 rfl (by kernel_rfl)
  have hp' : a.tmps[p]?.getD undef = .pointer (some ⟨b, 0, none⟩) := by simpa using hp
  have hq' : a.tmps[q]?.getD undef = x := by simpa using hq
  simp [results, hres, hp', hq', asAddr, h1]
  rfl
end Go.Proofs.YtnomeinppdnhfaaGreat
