/- Runs of single operations on numbers, for every program: as the table of values asks them. -/
import Derived.Test.YtnkpohkodkjkfaaGreatDoorJpJ9
import Derived.Laws.BitsAll
import Derived.Laws.Shifts
import Derived.Test.YtnkpohkodkjkfaaGreatDoorJpJ13
set_option maxHeartbeats 40000000
set_option maxRecDepth 100000
set_option linter.unusedVariables false
namespace Go.Proofs.YtnkpohkodkjkfaaGreatDoor
open Go.RowKit
section
variable {P : Program} {t : TypeId} {x y : Operand} {w : World}
theorem bin_sub64 (a b c : Int) (h : IntKind.i64.wrap (a - b) = c) : binRun P .sub t x y (.int .i64 a) (.int .i64 b) w = .ok (.int .i64 c) w := by subst h; simp [binRun, go_sem, Op.intArith]
theorem bin_mul64 (a b c : Int) (h : IntKind.i64.wrap (a * b) = c) : binRun P .mul t x y (.int .i64 a) (.int .i64 b) w = .ok (.int .i64 c) w := by subst h; simp [binRun, go_sem, Op.intArith]
theorem bin_and32 (a b : Nat) (ha : a < 4294967296) (hb : b < 4294967296) : binRun P .and t x y (.int .u32 (a : Int)) (.int .u32 (b : Int)) w = .ok (.int .u32 ((a &&& b : Nat) : Int)) w := by
  rw [← u32_and_nat a b ha hb]; simp [binRun, go_sem]
theorem bin_neq (k : IntKind) (a b : Int) : binRun P .neq t x y (.int k a) (.int k b) w = .ok (.bool (a != b)) w := by simp [binRun, go_sem]
theorem bin_leq (k : IntKind) (a b : Int) : binRun P .leq t x y (.int k a) (.int k b) w = .ok (.bool (decide (a ≤ b))) w := by simp [binRun, go_sem]
theorem bin_gtr (k : IntKind) (a b : Int) : binRun P .gtr t x y (.int k a) (.int k b) w = .ok (.bool (decide (a > b))) w := by simp [binRun, go_sem]
end
theorem step_fieldAddr {P : Program} {md : Region.Mode} {ops : Array Oper} {Q : Exit → Act → World → Prop} {X0 : Array Value} {val : Nat → Value} {J : World → Prop} {i : Nat} {o : Oper} (hi : ops[i]? = some o) (hg : GOk md ops X0 val i o) (t : TypeId) (x : Operand) (f : Nat) (p : Value) (ho : o.op = .fieldAddr t x f) (hx : rdo md ops X0 val i o x = some p) (hr : ∀ w, J w → (Instr.fieldAt t p f).run P w = .ok (val i) w) : StepAt P md ops Q X0 val J J i o :=
  step_of hi hg fun a w hJ hS => by
    unfold Oper.wp execOp
    simp only [ho, hS.eval hx, Sem.run_bind, hr w hJ, Result.andThen_ok, Sem.run_pure, Oper.upon_value]
    exact ⟨trivial, hJ⟩
end Go.Proofs.YtnkpohkodkjkfaaGreatDoor
namespace Go.Proofs.YtnkpohkodkjkfaaGreatDoor
open Go.RowKit Go.Shelf

theorem rk_ok {t k : Int} : rk t k ≠ -1 ↔ 0 ≤ t ∧ t ≤ 1048576 ∧ (k = 1 ∨ k = 2) := by
  unfold rk
  by_cases h : t < 0 ∨ 1048576 < t
  · rw [if_pos h]; omega
  · rw [if_neg h]
    by_cases k1 : k = 1
    · rw [if_pos k1]; omega
    · rw [if_neg k1]
      by_cases k2 : k = 2
      · rw [if_pos k2]; omega
      · rw [if_neg k2]; omega
/-- Is it a notice of one of n nodes? -/
def vl (n o t k : Int) : Bool := decide (1 ≤ n ∧ n ≤ 100 ∧ 0 ≤ o ∧ o < n ∧ rk t k ≠ -1)
set_option maxHeartbeats 1000000 in
theorem valid_any (n o t k : Int) (w : World) : Calls Tryz.prog 117 #[.int .i64 n, nt o t k] w fun e w' => e = .returned (.bool (vl n o t k)) ∧ Below w.heap.size w w' := by
  have hr1 := rank_any o t k
  unfold vl
  unfold nt at *
  generalize rk t k = r at *
  by_cases h1 : 1 ≤ n ∧ n ≤ 100 ∧ 0 ≤ o ∧ o < n
  · obtain ⟨a1, a2, a3, a4⟩ := h1
    go_enter Tryz.func117, Tryz.ntmps117
    go_wp2_with (go_at_call 137; (with_reducible refine (hr1 _).mono ?_); rintro e u1 ⟨rfl, hb1⟩)
    go_ret
    exact ⟨by by_cases h2 : r = -1 <;> simp [*], bel2 ((Below.refl _ w).alloc (by simp) _) hb1⟩
  · have hv : decide (1 ≤ n ∧ n ≤ 100 ∧ 0 ≤ o ∧ o < n ∧ r ≠ -1) = false := decide_eq_false (fun ⟨a, b, c, d, _⟩ => h1 ⟨a, b, c, d⟩)
    rw [hv]
    have h2 : n < 1 ∨ (1 ≤ n ∧ 100 < n) ∨ (1 ≤ n ∧ n ≤ 100 ∧ o < 0) ∨ (1 ≤ n ∧ n ≤ 100 ∧ 0 ≤ o ∧ n ≤ o) := by omega
    clear hv h1
    rcases h2 with h | ⟨h, h'⟩ | ⟨h, h', h''⟩ | ⟨h, h', h'', h3⟩
    all_goals
      go_enter Tryz.func117, Tryz.ntmps117
      go_wp2
      go_ret
      exact ⟨rfl, (Below.refl _ w).alloc (by simp) _⟩
end Go.Proofs.YtnkpohkodkjkfaaGreatDoor
