/- Sets held against each other; a new box: as the statements' walks ask them. -/
import Derived.Test.YtginkcjhfdoodabDoorOpn
import Derived.Test.YtginkcjhfdoodabDoorRgs
namespace Go.Proofs.YtginkcjhfdoodabDoor
open Go.RowKit

theorem Holds4.lt {w : World} {b : Nat} {c : Nat → Nat} (h : Holds4 w b c) : b < w.heap.size := (Array.getElem?_eq_some_iff.1 h).1
theorem run_alloc4 (w : World) : (Instr.alloc 24 true (.tuple #[])).run Tryd.prog w = .ok (.pointer (some ⟨w.heap.size, 0, none⟩)) (w.alloc (.cells (cells4 (fun _ => 0)) 24)) := by
  go_simp
  rfl
theorem alloc_below (w : World) (o : Obj) : Below w.heap.size w (w.alloc o) := (Below.refl _ w).alloc (Nat.le_refl _) o
theorem cln_ext {A B : Nat} (h : ∀ i, i < 100 → A.testBit i = B.testBit i) : cln A = cln B := by
  apply Nat.eq_of_testBit_eq; intro i
  rw [testBit_cln, testBit_cln]
  by_cases hi : i < 100
  · rw [h i hi]
  · simp [hi]
theorem neqs {x y : Operand} {A B : Nat} (h : A = B) (hA : A < S128) (w : World) : binRun Tryd.prog .neq 24 x y (sv A) (sv B) w = .ok (.bool false) w := by
  subst h; rw [neq4 x y A A hA hA]; simp
theorem eqls {x y : Operand} {A B : Nat} (h : A = B) (hA : A < S128) (w : World) : binRun Tryd.prog .eql 24 x y (sv A) (sv B) w = .ok (.bool true) w := by
  subst h; rw [eql4 x y A A hA hA]; simp
theorem step_alloc {ops : Array Oper} {Q : Exit → Act → World → Prop} {i : Nat} {o : Oper} {a : Act} {w : World} {K : Act → World → Prop} (hi : ops[i]? = some o) (hg : o.guard = none) (ho : o.op = .alloc 24)
    (hK : K (a.put o.dst (.pointer (some ⟨w.heap.size, 0, none⟩))) (w.alloc (.cells (cells4 (fun _ => 0)) 24))) : wpOp Tryd.prog ops Q i K a w := by
  unfold wpOp
  rw [hi]
  simp only [Region.wanted, hg, if_true]
  refine .inl ?_
  unfold Oper.wp execOp
  simp only [ho, Sem.run_bind, run_alloc4, Result.andThen_ok, Sem.run_pure, Oper.upon_value]
  exact hK
def StepG {G : Type} (P : Program) (md : Region.Mode) (ops : Array Oper) (Q : Exit → Act → World → Prop) (X0 : Array Value) (val : G → Nat → Value) (J : G → (Nat → Bool) → World → Prop) (i : Nat) (o : Oper) : Prop :=
  ∀ g d a w, J g d w → d i = false → (∀ j, bindsOn md o j = true → d j = true) → (∀ j oj, ops[j]? = some oj → d j = true → ∀ k, bindsOn md oj k = true → d k = true) → (∀ s v, rdv md ops X0 (val g) i o s = some v → a.tmps.getD s undef = v) →
      wpOp P ops Q i (fun a' w' => ∃ g', (∀ j, d j = true → val g' j = val g j) ∧ a' = a.put o.dst (val g' i) ∧ J g' (fun j => if j = i then true else d j) w') a w
theorem stepG_of {G : Type} {P : Program} {md : Region.Mode} {ops : Array Oper} {Q : Exit → Act → World → Prop} {X0 : Array Value} {val : G → Nat → Value} {J : G → (Nat → Bool) → World → Prop} {i : Nat} {o : Oper}
    (h : ∀ g d, (∀ j, bindsOn md o j = true → d j = true) → StepAt P md ops Q X0 (val g) (J g d) (J g (fun j => if j = i then true else d j)) i o) : StepG P md ops Q X0 val J i o := by
  intro g d a w hJ _ hdep _ hS
  exact wpOp_mono (fun a' w' hq => ⟨g, fun _ _ => rfl, hq.1, hq.2⟩) (h g d hdep a w hJ hS)
theorem wpAny_tabG {P : Program} {md : Region.Mode} {ops : Array Oper} {Q : Exit → Act → World → Prop} {G : Type} (val : G → Nat → Value) (J : G → (Nat → Bool) → World → Prop)
    {X0 : Array Value} {df : List Deferred} (hok : tabOk md ops X0.size = true) (g : G) {w : World} (hJ : J g (fun _ => false) w)
    (hstep : ∀ i o, ops[i]? = some o → StepG P md ops Q X0 val J i o)
    (hend : ∀ g d w, (∀ j, j < ops.size → d j = true) → J g d w → Q .normal { tmps := finL (val g) ops.toList 0 X0, defers := df } w) :
    wpAny P md ops Q ops.size (Array.replicate ops.size false) { tmps := X0, defers := df } w :=
  wpAny_tab val J hok hend (fun i o ho g d a w => hstep i o ho g d a w) g hJ
end Go.Proofs.YtginkcjhfdoodabDoor
