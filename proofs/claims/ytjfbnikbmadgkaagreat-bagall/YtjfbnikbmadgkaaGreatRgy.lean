/- A call, or the loop's own yield, in a region in a round, with what is found out on the way. For every program. -/
import Derived.Test.YtjfbnikbmadgkaaGreatRgi
import Derived.Test.YtjfbnikbmadgkaaGreatRgk
namespace Go.Proofs.YtjfbnikbmadgkaaGreat
open Go.RowKit
section
variable {G : Type} {F : Fence} {n : Nat} {P : Program} {md : Region.Mode} {ops : Array Oper} {Q : Exit → Act → World → Prop} {X0 : Array Value} {val : G → Nat → Value} {J : G → (Nat → Bool) → World → Prop} {i : Nat} {o : Oper}
theorem stepGI_call (hF : WideF F) (hi : ops[i]? = some o) (hg : o.guard = none) (f : FuncId) (xs : Array Operand) (ts : Array TypeId) (vs : G → List Value) (ho : o.op = .call { callee := .value (.func f), args := xs, argTypes := ts })
    (hx : ∀ g, xs.toList.map (rdo md ops X0 (val g) i o) = (vs g).map some) (hen : ∀ args w, (callFunc f args).run P w = .ok (.enter f args) w)
    (hc : ∀ g d w, J g d w → d i = false → (∀ j, bindsOn md o j = true → d j = true) → (∀ j oj, ops[j]? = some oj → d j = true → ∀ k, bindsOn md oj k = true → d k = true) → Calls P f (vs g).toArray w fun e w' => ∃ g', e = .returned (val g' i) ∧ (∀ j, d j = true → val g' j = val g j) ∧ J g' (fun j => if j = i then true else d j) w') : StepGI F n P md ops Q X0 val J i o := by
  refine stepGI_wp hF hi hg (fun c e => by rw [ho] at e; cases e) ?_
  intro g d a w hJ hun hdep hcl hS
  unfold Oper.wp execOp
  have e : xs.map a.eval = (vs g).toArray := by
    apply Array.toList_inj.1
    rw [Array.toList_map]
    exact hS.evals _ _ (hx g)
  have e2 : a.eval (.func f) = .func (.func f) #[] #[] := rfl
  simp only [ho, resolve, e, e2, Deferred.ofValue, Sem.run_bind, Sem.run_pure, Result.andThen_ok, invoke, Array.empty_append, Array.append_empty, hen, Oper.upon_enter]
  refine (hc g d w hJ hun hdep hcl).mono ?_
  rintro e' w' ⟨g', rfl, h1, h2⟩
  exact ⟨g', h1, rfl, h2⟩
theorem stepGI_yield (hF : WideF F) (hi : ops[i]? = some o) (hg : o.guard = none) (l : Nat) (x : Operand) (xs : Array Operand) (ts : Array TypeId) (vs : G → List Value) (ho : o.op = .call { callee := .value x, args := xs, argTypes := ts })
    (hv : ∀ g, rdo md ops X0 (val g) i o x = some (.func (.yield l) #[] #[])) (hx : ∀ g, xs.toList.map (rdo md ops X0 (val g) i o) = (vs g).map some)
    (hc : ∀ g d w, J g d w → d i = false → (∀ j, bindsOn md o j = true → d j = true) → (∀ j oj, ops[j]? = some oj → d j = true → ∀ k, bindsOn md oj k = true → d k = true) → YieldAt F (n - 1) P l (vs g).toArray w fun e w' => ∃ g', e = .returned (val g' i) ∧ (∀ j, d j = true → val g' j = val g j) ∧ J g' (fun j => if j = i then true else d j) w') : StepGI F n P md ops Q X0 val J i o := by
  intro g d a w hJ hun hdep hcl hS0
  have hS : Seen md ops X0 (val g) i o a := hS0
  unfold wpOpIn
  rw [hi]
  simp only [Region.wanted, hg, if_true]
  refine ⟨fun f _ => hF.fn f, ?_⟩
  rw [Oper.semAt_plain F _ _ (fun c hc => by rw [ho] at hc; cases hc)]
  have e : xs.map a.eval = (vs g).toArray := by
    apply Array.toList_inj.1
    rw [Array.toList_map]
    exact hS.evals _ _ (hx g)
  obtain ⟨fn, tmps, assign, body, hy, hR⟩ := hc g d w hJ hun hdep hcl
  unfold execOp
  simp only [ho, resolve, e, hS.eval (hv g), Deferred.ofValue, Sem.run_bind, Sem.run_pure, Result.andThen_ok, invoke, Array.empty_append, hy, Oper.uponIn_round]
  refine ⟨wf_room hF, hR.mono ?_⟩
  rintro e' w' ⟨g', rfl, h1, h2⟩
  exact ⟨g', h1, rfl, h2⟩
end
end Go.Proofs.YtjfbnikbmadgkaaGreat
