/- Regions in a round, with what is found out on the way. For every program. -/
import Derived.Test.YtibhljdiofglfabDoorRgj
namespace Go.Proofs.YtibhljdiofglfabDoor
open Go.RowKit

def StepGI {G : Type} (F : Fence) (n : Nat) (P : Program) (md : Region.Mode) (ops : Array Oper) (Q : Exit → Act → World → Prop) (X0 : Array Value) (val : G → Nat → Value) (J : G → (Nat → Bool) → World → Prop) (i : Nat) (o : Oper) : Prop :=
  ∀ g d a w, J g d w → d i = false → (∀ j, bindsOn md o j = true → d j = true) → (∀ j oj, ops[j]? = some oj → d j = true → ∀ k, bindsOn md oj k = true → d k = true) → (∀ s v, rdv md ops X0 (val g) i o s = some v → a.tmps.getD s undef = v) →
      wpOpIn F n P ops Q i (fun a' w' => ∃ g', (∀ j, d j = true → val g' j = val g j) ∧ a' = a.put o.dst (val g' i) ∧ J g' (fun j => if j = i then true else d j) w') a w
section
variable {G : Type} {F : Fence} {n : Nat} {P : Program} {md : Region.Mode} {ops : Array Oper} {Q : Exit → Act → World → Prop} {X0 : Array Value} {val : G → Nat → Value} {J : G → (Nat → Bool) → World → Prop} {i : Nat} {o : Oper}
theorem wpAnyIn_tabG (val : G → Nat → Value) (J : G → (Nat → Bool) → World → Prop)
    {X0 : Array Value} {df : List Deferred} (hok : tabOk md ops X0.size = true) (g : G) {w : World} (hJ : J g (fun _ => false) w)
    (hstep : ∀ i o, ops[i]? = some o → StepGI F n P md ops Q X0 val J i o)
    (hend : ∀ g d w, (∀ j, j < ops.size → d j = true) → J g d w → Q .normal { tmps := finL (val g) ops.toList 0 X0, defers := df } w) :
    wpAnyIn F n P md ops Q ops.size (Array.replicate ops.size false) { tmps := X0, defers := df } w :=
  wpAnyIn_tab val J hok hend (fun i o ho g d a w => hstep i o ho g d a w) g hJ
theorem stepGI_at (h : ∀ g d, d i = false → (∀ j, bindsOn md o j = true → d j = true) → (∀ j oj, ops[j]? = some oj → d j = true → ∀ k, bindsOn md oj k = true → d k = true) → ∀ a w, J g d w → Seen md ops X0 (val g) i o a → wpOpIn F n P ops Q i (fun a' w' => ∃ g', (∀ j, d j = true → val g' j = val g j) ∧ a' = a.put o.dst (val g' i) ∧ J g' (fun j => if j = i then true else d j) w') a w) : StepGI F n P md ops Q X0 val J i o :=
  fun g d a w hJ hun hdep hcl hS => h g d hun hdep hcl a w hJ hS
theorem stepGI_of (h : ∀ g d, d i = false → (∀ j, bindsOn md o j = true → d j = true) → StepAtI F n P md ops Q X0 (val g) (J g d) (J g (fun j => if j = i then true else d j)) i o) : StepGI F n P md ops Q X0 val J i o := by
  intro g d a w hJ hun hdep _ hS
  exact wpOpIn_mono (fun a' w' hq => ⟨g, fun _ _ => rfl, hq.1, hq.2⟩) (h g d hun hdep a w hJ hS)
theorem stepGI_wp (hF : WideF F) (hi : ops[i]? = some o) (hg : o.guard = none) (hnd : ∀ c, o.op ≠ .defer c)
    (h : ∀ g d a w, J g d w → d i = false → (∀ j, bindsOn md o j = true → d j = true) → (∀ j oj, ops[j]? = some oj → d j = true → ∀ k, bindsOn md oj k = true → d k = true) → Seen md ops X0 (val g) i o a → o.wp P a w (fun a' w' => ∃ g', (∀ j, d j = true → val g' j = val g j) ∧ a' = a.put o.dst (val g' i) ∧ J g' (fun j => if j = i then true else d j) w') Q) : StepGI F n P md ops Q X0 val J i o := by
  intro g d a w hJ hun hdep hcl hS
  have hS' : Seen md ops X0 (val g) i o a := hS
  have h1 := h g d a w hJ hun hdep hcl hS'
  unfold wpOpIn
  rw [hi]
  simp only [Region.wanted, hg, if_true]
  refine ⟨fun f _ => hF.fn f, ?_⟩
  rw [Oper.semAt_plain F _ _ hnd]
  exact uponJ_of hF h1
theorem stepGI_build (hF : WideF F) (hi : ops[i]? = some o) (hg : o.guard = none) (t : TypeId) (x : Operand) (v : Value) (ho : o.op = .buildSlice t 1 #[(0, x)]) (hx : ∀ g, rdo md ops X0 (val g) i o x = some v)
    (h : ∀ g d w, J g d w → d i = false → (∀ j oj, ops[j]? = some oj → d j = true → ∀ k, bindsOn md oj k = true → d k = true) → ∃ g' w', (Instr.buildSlice t 1 #[(0, v)]).run P w = .ok (val g' i) w' ∧ (∀ j, d j = true → val g' j = val g j) ∧ J g' (fun j => if j = i then true else d j) w') : StepGI F n P md ops Q X0 val J i o := by
  refine stepGI_wp hF hi hg (fun c e => by rw [ho] at e; cases e) ?_
  intro g d a w hJ hun hdep hcl hS
  obtain ⟨g', w', h1, h2, h3⟩ := h g d w hJ hun hcl
  unfold Oper.wp execOp
  simp only [ho, List.map_toArray, List.map_cons, List.map_nil, hS.eval (hx g), Sem.run_bind, h1, Result.andThen_ok, Sem.run_pure, Oper.upon_value]
  exact ⟨g', h2, rfl, h3⟩
theorem stepGI_append (hF : WideF F) (hi : ops[i]? = some o) (hg : o.guard = none) (t : TypeId) (x y : Operand) (vx vy : G → Value) (ho : o.op = .call { callee := .builtin .append, args := #[x, y], argTypes := #[t, t] }) (hx : ∀ g, rdo md ops X0 (val g) i o x = some (vx g)) (hy : ∀ g, rdo md ops X0 (val g) i o y = some (vy g))
    (h : ∀ g d w, J g d w → d i = false → (∀ j, bindsOn md o j = true → d j = true) → (∀ j oj, ops[j]? = some oj → d j = true → ∀ k, bindsOn md oj k = true → d k = true) → ∃ g' w', (Builtin.append_ #[t, t] o.type #[vx g, vy g]).run P w = .ok (val g' i) w' ∧ (∀ j, d j = true → val g' j = val g j) ∧ J g' (fun j => if j = i then true else d j) w') : StepGI F n P md ops Q X0 val J i o := by
  refine stepGI_wp hF hi hg (fun c e => by rw [ho] at e; cases e) ?_
  intro g d a w hJ hun hdep hcl hS
  obtain ⟨g', w', h1, h2, h3⟩ := h g d w hJ hun hdep hcl
  unfold Oper.wp execOp
  simp only [ho, resolve, invoke, builtin, List.map_toArray, List.map_cons, List.map_nil, hS.eval (hx g), hS.eval (hy g), Sem.run_bind, h1, Result.andThen_ok, Sem.run_pure, Oper.upon_value]
  exact ⟨g', h2, rfl, h3⟩
/-- A struct that is made of four parts. -/
theorem stepGI_struct4 (hF : WideF F) (hi : ops[i]? = some o) (hg : o.guard = none) (t : TypeId) (x0 x1 x2 x3 : Operand) (v0 v1 v2 v3 : Value) (ho : o.op = .build t #[(0, x0), (1, x1), (2, x2), (3, x3)]) (hx : ∀ g, rdo md ops X0 (val g) i o x0 = some v0 ∧ rdo md ops X0 (val g) i o x1 = some v1 ∧ rdo md ops X0 (val g) i o x2 = some v2 ∧ rdo md ops X0 (val g) i o x3 = some v3)
    (h : ∀ g d w, J g d w → d i = false → (Instr.build t #[(0, v0), (1, v1), (2, v2), (3, v3)]).run P w = .ok (val g i) w ∧ J g (fun j => if j = i then true else d j) w) : StepGI F n P md ops Q X0 val J i o := by
  refine stepGI_wp hF hi hg (fun c e => by rw [ho] at e; cases e) ?_
  intro g d a w hJ hun hdep hcl hS
  obtain ⟨h1, h3⟩ := h g d w hJ hun
  obtain ⟨e0, e1, e2, e3⟩ := hx g
  unfold Oper.wp execOp
  simp only [ho, List.map_toArray, List.map_cons, List.map_nil, hS.eval e0, hS.eval e1, hS.eval e2, hS.eval e3, Sem.run_bind, h1, Result.andThen_ok, Sem.run_pure, Oper.upon_value]
  exact ⟨g, fun _ _ => rfl, rfl, h3⟩
end
end Go.Proofs.YtibhljdiofglfabDoor
