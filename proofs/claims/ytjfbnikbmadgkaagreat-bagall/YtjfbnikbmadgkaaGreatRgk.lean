/- More steps of a region in a round. For every program. -/
import Derived.Test.YtjfbnikbmadgkaaGreatRgj
namespace Go.Proofs.YtjfbnikbmadgkaaGreat
open Go.RowKit
section
variable {F : Fence} {n : Nat} {P : Program} {md : Region.Mode} {ops : Array Oper} {Q : Exit → Act → World → Prop} {X0 : Array Value} {val : Nat → Value} {J : World → Prop} {i : Nat} {o : Oper}
theorem stepJ_fieldAddr (hF : WideF F) (hi : ops[i]? = some o) (hg : GOk md ops X0 val i o) (t : TypeId) (x : Operand) (f : Nat) (p : Value) (ho : o.op = .fieldAddr t x f) (hx : rdo md ops X0 val i o x = some p) (hr : ∀ w, J w → (Instr.fieldAt t p f).run P w = .ok (val i) w) : StepAtI F n P md ops Q X0 val J J i o :=
  stepJ_of hF hi hg (fun c hc => by rw [ho] at hc; cases hc) fun a w hJ hS => by
    unfold Oper.wp execOp
    simp only [ho, hS.eval hx, Sem.run_bind, hr w hJ, Result.andThen_ok, Sem.run_pure, Oper.upon_value]
    exact ⟨trivial, hJ⟩
theorem stepJ_bi (hF : WideF F) (hi : ops[i]? = some o) (hg : GOk md ops X0 val i o) (b : Builtin) (xs : Array Operand) (ts : Array TypeId) (vs : List Value) (ho : o.op = .call { callee := .builtin b, args := xs, argTypes := ts })
    (hx : xs.toList.map (rdo md ops X0 val i o) = vs.map some) (hr : ∀ cs w, J w → (builtin b ts o.type cs vs.toArray).run P w = .ok (.value (val i)) w) : StepAtI F n P md ops Q X0 val J J i o :=
  stepJ_of hF hi hg (fun c hc => by rw [ho] at hc; cases hc) fun a w hJ hS => by
    unfold Oper.wp execOp
    have e : xs.map a.eval = vs.toArray := by
      apply Array.toList_inj.1
      rw [Array.toList_map]
      exact hS.evals _ _ hx
    simp only [ho, resolve, e, Sem.run_bind, Sem.run_pure, Result.andThen_ok, invoke, hr _ w hJ, Oper.upon_value]
    exact ⟨trivial, hJ⟩
end
end Go.Proofs.YtjfbnikbmadgkaaGreat
