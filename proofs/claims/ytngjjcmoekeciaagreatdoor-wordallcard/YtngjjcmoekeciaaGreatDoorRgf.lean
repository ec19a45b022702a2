/- A step of a region: a field's address. For every program. -/
import Derived.Test.YtngjjcmoekeciaaGreatDoorRgs
namespace Go.Proofs.YtngjjcmoekeciaaGreatDoor
open Go.RowKit
theorem step_fieldAddr {P : Program} {md : Region.Mode} {ops : Array Oper} {Q : Exit → Act → World → Prop} {X0 : Array Value} {val : Nat → Value} {J : World → Prop} {i : Nat} {o : Oper} (hi : ops[i]? = some o) (hg : GOk md ops X0 val i o) (t : TypeId) (x : Operand) (f : Nat) (p : Value) (ho : o.op = .fieldAddr t x f) (hx : rdo md ops X0 val i o x = some p) (hr : ∀ w, J w → (Instr.fieldAt t p f).run P w = .ok (val i) w) : StepAt P md ops Q X0 val J J i o :=
  step_of hi hg fun a w hJ hS => by
    unfold Oper.wp execOp
    simp only [ho, hS.eval hx, Sem.run_bind, hr w hJ, Result.andThen_ok, Sem.run_pure, Oper.upon_value]
    exact ⟨trivial, hJ⟩
theorem bin_eql0 {P : Program} {t : TypeId} {x y : Operand} {w : World} (k : IntKind) (a b : Int) : binRun P .eql t x y (.int k a) (.int k b) w = .ok (.bool (a == b)) w := by simp [binRun, go_sem]
theorem bin_eqls {P : Program} {t : TypeId} {x y : Operand} {w : World} (a : ByteArray) : binRun P .eql t x y (.string a) (.string a) w = .ok (.bool true) w := by simp [binRun, go_sem]
end Go.Proofs.YtngjjcmoekeciaaGreatDoor
