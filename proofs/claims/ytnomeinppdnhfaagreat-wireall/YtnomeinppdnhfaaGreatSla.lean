/- Sets held against each other; a new box: as the statements' walks ask them. -/
import Derived.Test.YtnomeinppdnhfaaGreatOpn
import Derived.Test.YtnomeinppdnhfaaGreatRgs
import Derived.Test.YtnomeinppdnhfaaGreatSlg
namespace Go.Proofs.YtnomeinppdnhfaaGreat
open Go.RowKit

theorem Holds4.lt {w : World} {b : Nat} {c : Nat → Nat} (h : Holds4 w b c) : b < w.heap.size := (Array.getElem?_eq_some_iff.1 h).1
theorem run_alloc4 (w : World) : (Instr.alloc 41 true (.tuple #[])).run Tryz.prog w = .ok (.pointer (some ⟨w.heap.size, 0, none⟩)) (w.alloc (.cells (cells4 (fun _ => 0)) 41)) := by
  go_simp
  rfl
theorem alloc_below (w : World) (o : Obj) : Below w.heap.size w (w.alloc o) := (Below.refl _ w).alloc (Nat.le_refl _) o
theorem cln_ext {A B : Nat} (h : ∀ i, i < 100 → A.testBit i = B.testBit i) : cln A = cln B := by
  apply Nat.eq_of_testBit_eq; intro i
  rw [testBit_cln, testBit_cln]
  by_cases hi : i < 100
  · rw [h i hi]
  · simp [hi]
theorem neqs {x y : Operand} {A B : Nat} (h : A = B) (hA : A < S128) (w : World) : binRun Tryz.prog .neq 41 x y (sv A) (sv B) w = .ok (.bool false) w := by
  subst h; rw [neq4 x y A A hA hA]; simp
theorem eqls {x y : Operand} {A B : Nat} (h : A = B) (hA : A < S128) (w : World) : binRun Tryz.prog .eql 41 x y (sv A) (sv B) w = .ok (.bool true) w := by
  subst h; rw [eql4 x y A A hA hA]; simp
theorem step_alloc {ops : Array Oper} {Q : Exit → Act → World → Prop} {i : Nat} {o : Oper} {a : Act} {w : World} {K : Act → World → Prop} (hi : ops[i]? = some o) (hg : o.guard = none) (ho : o.op = .alloc 41)
    (hK : K (a.put o.dst (.pointer (some ⟨w.heap.size, 0, none⟩))) (w.alloc (.cells (cells4 (fun _ => 0)) 41))) : wpOp Tryz.prog ops Q i K a w := by
  unfold wpOp
  rw [hi]
  simp only [Region.wanted, hg, if_true]
  refine .inl ?_
  unfold Oper.wp execOp
  simp only [ho, Sem.run_bind, run_alloc4, Result.andThen_ok, Sem.run_pure, Oper.upon_value]
  exact hK
end Go.Proofs.YtnomeinppdnhfaaGreat
