/- The law of a scope with several labels, out of which the run may jump to labels of outer scopes: for every program and every code; the statement at each jump and a measure are the prover's. -/
import Derived.Scope
import Derived.ScopeJumps
namespace Go.Proofs.YtibhljdiofglfabDoor
open Go

/-- As Q; by a goto to a label of the list: Q; by a goto to another label: J of it, with a measure. -/
def jumpsOut (outs : List Nat) (J : Nat → Nat → Act → World → Prop) (Q : Exit → Act → World → Prop) : Exit → Act → World → Prop
  | .goto l, a, w => (l ∈ outs ∧ Q (.goto l) a w) ∨ (∃ m, J l m a w)
  | e, a, w => Q e a w

theorem wp_scope_out {P : Program} {a : Act} {w : World} {Q : Exit → Act → World → Prop} {c : Code} (outs : List Nat) (J : Nat → Nat → Act → World → Prop) (hout : ∀ l ∈ outs, findLabel c l = none)
    (first : c.wp P (jumpsOut outs J Q) a w)
    (pass : ∀ l m a w, J l m a w → ∃ rest, findLabel c l = some rest ∧ rest.wp P (jumpsOut outs (fun l' m' a' w' => m' < m ∧ J l' m' a' w') Q) a w) : (Code.scope c).wp P Q a w := by
  intro b k cs
  have out : ∀ l, l ∈ outs → ∀ k', gotoIn l k = some k' → gotoIn l (.inScope c :: k) = some k' := fun l hl k' hk => by simp [gotoIn, hout l hl, hk]
  have key : ∀ n l a w, J l n a w → ∃ rest, findLabel c l = some rest ∧ ∃ e a' w', Q e a' w' ∧ Arrives P (lone (b.at a (.code rest :: .inScope c :: k)) cs w) b k cs e a' w' := by
    intro n
    induction n using Nat.strongRecOn with
    | _ n ih =>
      intro l a w hJ
      obtain ⟨rest, hf, hp⟩ := pass l n a w hJ
      refine ⟨rest, hf, ?_⟩
      obtain ⟨e, a₁, w₁, hq, harr⟩ := hp b (.inScope c :: k) cs
      cases e with
      | normal => exact ⟨.normal, a₁, w₁, hq, Steps.trans harr (.one step_inScope)⟩
      | exit id => exact ⟨.exit id, a₁, w₁, hq, fun k' hk => harr k' (by simp [exitTo, hk])⟩
      | goto l' =>
        rcases hq with ⟨hl, hq⟩ | ⟨m, hlt, hJ'⟩
        · exact ⟨.goto l', a₁, w₁, hq, fun k' hk => harr k' (out l' hl k' hk)⟩
        · obtain ⟨rest', hf', e₂, a₂, w₂, hq₂, harr₂⟩ := ih m hlt l' a₁ w₁ hJ'
          have hg : gotoIn l' (.inScope c :: k) = some (.code rest' :: .inScope c :: k) := by simp [gotoIn, hf']
          exact ⟨e₂, a₂, w₂, hq₂, .of_steps (harr _ hg) harr₂⟩
      | ret => exact ⟨_, a₁, w₁, hq, harr⟩
      | panic ch => exact ⟨_, a₁, w₁, hq, harr⟩
      | outgrown => exact ⟨_, a₁, w₁, hq, harr⟩
  obtain ⟨e, a₁, w₁, hq, harr⟩ := first b (.inScope c :: k) cs
  cases e with
  | normal => exact ⟨.normal, a₁, w₁, hq, .head step_scope (Steps.trans harr (.one step_inScope))⟩
  | exit id => exact ⟨.exit id, a₁, w₁, hq, fun k' hk => .head step_scope (harr k' (by simp [exitTo, hk]))⟩
  | goto l' =>
    rcases hq with ⟨hl, hq⟩ | ⟨m, hJ'⟩
    · exact ⟨.goto l', a₁, w₁, hq, fun k' hk => .head step_scope (harr k' (out l' hl k' hk))⟩
    · obtain ⟨rest', hf', e₂, a₂, w₂, hq₂, harr₂⟩ := key m l' a₁ w₁ hJ'
      have hg : gotoIn l' (.inScope c :: k) = some (.code rest' :: .inScope c :: k) := by simp [gotoIn, hf']
      exact ⟨e₂, a₂, w₂, hq₂, .of_steps (.head step_scope (harr _ hg)) harr₂⟩
  | ret => exact ⟨_, a₁, w₁, hq, .of_steps (.one step_scope) harr⟩
  | panic ch => exact ⟨_, a₁, w₁, hq, .of_steps (.one step_scope) harr⟩
  | outgrown => exact ⟨_, a₁, w₁, hq, .of_steps (.one step_scope) harr⟩
end Go.Proofs.YtibhljdiofglfabDoor
