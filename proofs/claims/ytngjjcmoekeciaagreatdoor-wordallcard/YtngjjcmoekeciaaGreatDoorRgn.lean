/- A nil check in a region. -/
import Derived.Test.YtngjjcmoekeciaaGreatDoorRgs
namespace Go.Proofs.YtngjjcmoekeciaaGreatDoor
open Go.RowKit
section
variable {P : Program} {md : Region.Mode} {ops : Array Oper} {Q : Exit → Act → World → Prop} {X0 : Array Value} {val : Nat → Value} {J J' : World → Prop} {i : Nat} {o : Oper}
theorem step_nilCheck (hi : ops[i]? = some o) (hg : GOk md ops X0 val i o) (x : Operand) (b off : Nat) (ho : o.op = .nilCheck x) (hx : rdo md ops X0 val i o x = some (.pointer (some ⟨b, off, none⟩))) (hv : val i = .pointer (some ⟨b, off, none⟩)) : StepAt P md ops Q X0 val J J i o :=
  step_of hi hg fun a w hJ hS => by
    unfold Oper.wp execOp
    simp [ho, hS.eval hx, Sem.run_pure, Oper.upon_value, hv, hJ]
end
end Go.Proofs.YtngjjcmoekeciaaGreatDoor
