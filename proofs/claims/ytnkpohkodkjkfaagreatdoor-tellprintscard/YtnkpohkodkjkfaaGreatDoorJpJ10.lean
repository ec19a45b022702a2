/- (Without instances.) A region that draws its order, in a round too, walked by a table of values: each operation is run once. For every program. -/
import Derived.Test.YtnkpohkodkjkfaaGreatDoorJpJ9
import Derived.OrdersIn
import Derived.RangeFuncCalls
import Derived.OwnWalkIn
import Derived.Test.YtnkpohkodkjkfaaGreatDoorJpJ1
set_option maxHeartbeats 40000000
set_option maxRecDepth 100000
set_option linter.unusedVariables false
namespace Go.Proofs.YtnkpohkodkjkfaaGreatDoor
open Go.RowKit

def StepAtI (F : Fence) (n : Nat) (P : Program) (md : Region.Mode) (ops : Array Oper) (Q : Exit → Act → World → Prop) (X0 : Array Value) (val : Nat → Value) (J J' : World → Prop) (i : Nat) (o : Oper) : Prop :=
  ∀ a w, J w → Seen md ops X0 val i o a → wpOpIn F n P ops Q i (fun a' w' => a' = a.put o.dst (val i) ∧ J' w') a w
theorem wpAnyIn_tab {F : Fence} {n : Nat} {P : Program} {md : Region.Mode} {ops : Array Oper} {Q : Exit → Act → World → Prop} {G : Type} (val : G → Nat → Value) (J : G → (Nat → Bool) → World → Prop)
    {X0 : Array Value} {df : List Deferred} (hok : tabOk md ops X0.size = true)
    (hend : ∀ g d w, (∀ j, j < ops.size → d j = true) → J g d w → Q .normal { tmps := finL (val g) ops.toList 0 X0, defers := df } w)
    (hstep : ∀ i o, ops[i]? = some o → ∀ g d a w, J g d w → d i = false → (∀ j, bindsOn md o j = true → d j = true) → (∀ j oj, ops[j]? = some oj → d j = true → ∀ k, bindsOn md oj k = true → d k = true) → (∀ s v, rdv md ops X0 (val g) i o s = some v → a.tmps.getD s undef = v) →
      wpOpIn F n P ops Q i (fun a' w' => ∃ g', (∀ j, d j = true → val g' j = val g j) ∧ a' = a.put o.dst (val g' i) ∧ J g' (fun j => if j = i then true else d j) w') a w)
    (g : G) {w : World} (hJ : J g (fun _ => false) w) : wpAnyIn F n P md ops Q ops.size (Array.replicate ops.size false) { tmps := X0, defers := df } w := by
  have key : ∀ k (listed : Array Bool) (a : Act) (w : World) (g : G), falses listed.toList = k → TabSt md ops X0 df (val g) listed a → J g (fun j => listed.getD j false) w → wpAnyIn F n P md ops Q k listed a w := by
    intro k
    induction k with
    | zero =>
      intro listed a w g hk hS hJ
      have hall : ∀ j, j < ops.size → listed.getD j false = true := fun j hj => by
        have := falses_zero listed.toList j hk (by simpa [hS.size] using hj)
        simpa [Array.getD_eq_getD_getElem?] using this
      have hr : Region.ready md ops listed = [] := by
        apply List.eq_nil_iff_forall_not_mem.2
        intro j hj
        obtain ⟨h1, o, ho, _⟩ := mem_ready.1 hj
        have h2 := hall j (getElem?_lt ho)
        have h3 : j < listed.size := by rw [hS.size]; exact getElem?_lt ho
        simp [Array.getD, h3] at h1 h2
        rw [h1] at h2; cases h2
      refine ⟨hr, ?_⟩
      rw [tab_end hS hok hall]
      exact hend g _ w hall hJ
    | succ k ih =>
      intro listed a w g hk hS hJ
      have hun : ∀ i, Region.ready md ops listed = [] → i < ops.size → listed.getD i false = true := by
        intro i hn
        induction i using Nat.strongRecOn with
        | ind i ihi =>
          intro hi
          cases hl : listed.getD i false with
          | true => rfl
          | false =>
            have hlt : i < listed.size := by rw [hS.size]; exact hi
            obtain ⟨o, ho⟩ : ∃ o, ops[i]? = some o := ⟨_, Array.getElem?_eq_getElem hi⟩
            have hc := List.all_eq_true.1 hok i (List.mem_range.2 hi)
            rw [ho] at hc
            simp only [Bool.and_eq_true] at hc
            have hmem : i ∈ Region.ready md ops listed := mem_ready.2 ⟨by simp [Array.getD, hlt] at hl ⊢; exact hl, o, ho, fun e he hb => by
              have := List.all_eq_true.1 hc.1 e (by simpa using he)
              simp only [hb, Bool.not_true, Bool.false_or, decide_eq_true_eq] at this
              exact ihi e.on this (by omega)⟩
            rw [hn] at hmem; cases hmem
      refine ⟨fun hn => ?_, fun i hi => ?_⟩
      · have hall := hun
        rw [tab_end hS hok (fun j hj => hun j hn hj)]
        exact hend g _ w (fun j hj => hun j hn hj) hJ
      · obtain ⟨h1, o, ho, hr⟩ := mem_ready.1 hi
        have hlt : i < listed.size := by rw [hS.size]; exact getElem?_lt ho
        have h1' : listed.getD i false = false := by simp [Array.getD, hlt] at h1 ⊢; exact h1
        refine wpOpIn_mono (fun a' w' hq => ?_) (hstep i o ho g _ a w hJ h1' (fun j hj => ?_) (fun j oj hoj hd k hk => ?_) (fun s v hv => hS.reads ho h1' hr s v hv))
        · obtain ⟨g', hv, rfl, hJ'⟩ := hq
          refine ih (listed.setIfInBounds i true) _ w' g' ?_ (hS.put hok ho hr hv h1') ?_
          · have := falses_set listed.toList i (by simpa [Array.getD_eq_getD_getElem?, hlt] using h1)
            simp only [Array.toList_setIfInBounds]
            omega
          · have e : (fun j => (listed.setIfInBounds i true).getD j false) = (fun j => if j = i then true else listed.getD j false) := by
              funext j
              rw [getD_set]
              by_cases e : i = j
              · subst e; simp [hlt]
              · rw [if_neg (fun c => e c.1), if_neg (fun c => e c.symm)]
            rw [e]; exact hJ'
        · obtain ⟨e, he, hb, rfl⟩ := bindsOn_iff.1 hj
          exact hr e he hb
        · obtain ⟨e, he, hb, rfl⟩ := bindsOn_iff.1 hk
          exact hS.closed j oj hoj hd e he hb
  refine key _ _ _ _ g (by simp [falses_replicate]) ⟨by simp, rfl, rfl, ?_, ?_, fun _ _ => rfl⟩ ?_
  · intro j oj _ h
    simp [Array.getD] at h
  · intro j s _ h
    simp [Array.getD] at h
  · have e : (fun j => (Array.replicate ops.size false).getD j false) = (fun _ => false) := by funext j; simp [Array.getD]
    rw [e]; exact hJ

/-- A fence that bars nothing, in a round or not. -/
structure WideF (F : Fence) : Prop where
  fn : ∀ f, F.fn f
  depth : F.depth = none
  calls : ∀ {n : Nat} {P : Program} {f : FuncId} {args : Array Value} {w : World} {R : Ending → World → Prop}, Calls P f args w R → CallsIn F n P f args w R
  rows : ∀ {n : Nat} {P : Program} {row : String} {args : Array Value} {w : World} {R : Value → World → Prop}, Rows P row args w R → RowsIn F n P row args w R
theorem rowsIn_of {n : Nat} {P : Program} {row : String} {args : Array Value} {w : World} {R : Value → World → Prop} (h : Rows P row args w R) : RowsIn Fence.wide n P row args w R :=
  fun c cs _ => let ⟨v, w', r, s⟩ := h c cs; ⟨v, w', r, stepsIn_wide.2 s⟩
theorem wideF_round (l : Nat) : WideF (Fence.wide.inRound l) := ⟨fun _ => trivial, rfl, fun h => CallsIn.inRound l (callsIn_wide.2 h), fun h => (rowsIn_of h : RowsIn Fence.wide _ _ _ _ _ _)⟩
section
variable {F : Fence} {n : Nat} {P : Program} {md : Region.Mode} {ops : Array Oper} {Q : Exit → Act → World → Prop} {X0 : Array Value} {val : Nat → Value} {J J' : World → Prop} {i : Nat} {o : Oper}
theorem wf_room (hF : WideF F) : F.depth.isSome = true → 1 ≤ n := fun h => by rw [hF.depth] at h; cases h
theorem uponJ_of (hF : WideF F) {a : Act} {next : Act → World → Prop} {r : Result Next} (h : o.upon P a next Q r) : o.uponIn F n P a next Q r := by
  cases r with
  | ok x w =>
    cases x with
    | enter f args => exact ⟨wf_room hF, hF.calls h⟩
    | row row args => exact ⟨wf_room hF, hF.rows h⟩
    | value v => exact h
    | skip => exact h
    | defer d => exact h
    | round l f t b c => exact h.elim
    | _ => exact h
  | halt x w => cases x <;> exact h
theorem stepJ_of (hF : WideF F) (hi : ops[i]? = some o) (hg : GOk md ops X0 val i o) (hnd : ∀ c, o.op ≠ .defer c) (h : ∀ a w, J w → Seen md ops X0 val i o a → o.wp P a w (fun a' w' => a' = a.put o.dst (val i) ∧ J' w') Q) : StepAtI F n P md ops Q X0 val J J' i o := by
  intro a w hJ hS
  unfold wpOpIn
  rw [hi]
  simp only [wanted_of hS hg, if_true]
  refine ⟨fun f _ => hF.fn f, ?_⟩
  rw [Oper.semAt_plain F _ _ hnd]
  exact uponJ_of hF (h a w hJ hS)
theorem stepJ_move (hF : WideF F) (hi : ops[i]? = some o) (hg : GOk md ops X0 val i o) (x : Operand) (ho : o.op = .move x) (hx : rdo md ops X0 val i o x = some (val i)) : StepAtI F n P md ops Q X0 val J J i o :=
  stepJ_of hF hi hg (fun c hc => by rw [ho] at hc; cases hc) fun a w hJ hS => by
    unfold Oper.wp execOp
    simp only [ho, hS.eval hx]
    exact ⟨rfl, hJ⟩
theorem stepJ_load (hF : WideF F) (hi : ops[i]? = some o) (hg : GOk md ops X0 val i o) (t : TypeId) (x : Operand) (p : Value) (ho : o.op = .load t x) (hx : rdo md ops X0 val i o x = some p) (hr : ∀ w, J w → (Instr.loadAt t p).run P w = .ok (val i) w) : StepAtI F n P md ops Q X0 val J J i o :=
  stepJ_of hF hi hg (fun c hc => by rw [ho] at hc; cases hc) fun a w hJ hS => by
    unfold Oper.wp execOp
    simp only [ho, hS.eval hx, Sem.run_bind, hr w hJ, Result.andThen_ok, Sem.run_pure, Oper.upon_value]
    exact ⟨trivial, hJ⟩
theorem stepJ_binOp (hF : WideF F) (hi : ops[i]? = some o) (hg : GOk md ops X0 val i o) (b : BinOp) (t u : TypeId) (x y : Operand) (p q : Value) (ho : o.op = .binOp b t x y u) (hx : rdo md ops X0 val i o x = some p) (hy : rdo md ops X0 val i o y = some q) (hr : ∀ w, J w → binRun P b t x y p q w = .ok (val i) w) : StepAtI F n P md ops Q X0 val J J i o :=
  stepJ_of hF hi hg (fun c hc => by rw [ho] at hc; cases hc) fun a w hJ hS => by
    unfold Oper.wp execOp
    have h := hr w hJ
    unfold binRun at h
    simp only [ho, hS.eval hx, hS.eval hy]
    rw [Sem.run_bind, h]
    simp only [Result.andThen_ok, Sem.run_pure, Oper.upon_value]
    exact ⟨trivial, hJ⟩
theorem stepJ_call (hF : WideF F) (hi : ops[i]? = some o) (hg : GOk md ops X0 val i o) (f : FuncId) (xs : Array Operand) (ts : Array TypeId) (vs : List Value) (ho : o.op = .call { callee := .value (.func f), args := xs, argTypes := ts })
    (hx : xs.toList.map (rdo md ops X0 val i o) = vs.map some) (hen : ∀ args w, (callFunc f args).run P w = .ok (.enter f args) w) (hc : ∀ w, J w → Calls P f vs.toArray w fun e w' => e = .returned (val i) ∧ J' w') : StepAtI F n P md ops Q X0 val J J' i o :=
  stepJ_of hF hi hg (fun c hc => by rw [ho] at hc; cases hc) fun a w hJ hS => by
    unfold Oper.wp execOp
    have e : xs.map a.eval = vs.toArray := by
      apply Array.toList_inj.1
      rw [Array.toList_map]
      exact hS.evals _ _ hx
    have e2 : a.eval (.func f) = .func (.func f) #[] #[] := rfl
    simp only [ho, resolve, e, e2, Deferred.ofValue, Sem.run_bind, Sem.run_pure, Result.andThen_ok, invoke, Array.empty_append, Array.append_empty, hen, Oper.upon_enter]
    refine (hc w hJ).mono ?_
    rintro e' w' ⟨rfl, hJ'⟩
    exact ⟨rfl, hJ'⟩
theorem stepJ_store (hF : WideF F) (hi : ops[i]? = some o) (hg : GOk md ops X0 val i o) (hd : o.dst = none) (t : TypeId) (x y : Operand) (p q : Value) (ho : o.op = .store t x y) (hx : rdo md ops X0 val i o x = some p) (hy : rdo md ops X0 val i o y = some q) (hr : ∀ w, J w → ∃ w', (Instr.storeAt t p q).run P w = .ok () w' ∧ J' w') : StepAtI F n P md ops Q X0 val J J' i o :=
  stepJ_of hF hi hg (fun c hc => by rw [ho] at hc; cases hc) fun a w hJ hS => by
    unfold Oper.wp execOp
    obtain ⟨w', h1, h2⟩ := hr w hJ
    simp only [ho, hS.eval hx, hS.eval hy, Sem.run_bind, h1, Result.andThen_ok, Sem.run_pure, Oper.upon_skip]
    exact ⟨by rw [hd]; rfl, h2⟩
end

def StepGI {G : Type} (F : Fence) (n : Nat) (P : Program) (md : Region.Mode) (ops : Array Oper) (Q : Exit → Act → World → Prop) (X0 : Array Value) (val : G → Nat → Value) (J : G → (Nat → Bool) → World → Prop) (i : Nat) (o : Oper) : Prop :=
  ∀ g d a w, J g d w → d i = false → (∀ j, bindsOn md o j = true → d j = true) → (∀ j oj, ops[j]? = some oj → d j = true → ∀ k, bindsOn md oj k = true → d k = true) → (∀ s v, rdv md ops X0 (val g) i o s = some v → a.tmps.getD s undef = v) →
      wpOpIn F n P ops Q i (fun a' w' => ∃ g', (∀ j, d j = true → val g' j = val g j) ∧ a' = a.put o.dst (val g' i) ∧ J g' (fun j => if j = i then true else d j) w') a w
section
variable {G : Type} {F : Fence} {n : Nat} {P : Program} {md : Region.Mode} {ops : Array Oper} {Q : Exit → Act → World → Prop} {X0 : Array Value} {val : G → Nat → Value} {J : G → (Nat → Bool) → World → Prop} {i : Nat} {o : Oper}
theorem wpAnyIn_tabG (val : G → Nat → Value) (J : G → (Nat → Bool) → World → Prop)
    {X0 : Array Value} {df : List Deferred} (hok : tabOk md ops X0.size = true) (g : G) {w : World} (hJ : J g (fun _ => false) w)
    (hstep : ∀ i o, ops[i]? = some o → StepGI F n P md ops Q X0 val J i o)
    (hend : ∀ g d w, (∀ j, j < ops.size → d j = true) → J g d w → Q .normal { tmps := finL (val g) ops.toList 0 X0, defers := df } w) :
    wpAnyIn F n P md ops Q ops.size (Array.replicate ops.size false) { tmps := X0, defers := df } w :=
  wpAnyIn_tab val J hok hend (fun i o ho g d a w => hstep i o ho g d a w) g hJ
theorem stepGI_of (h : ∀ g d, d i = false → (∀ j, bindsOn md o j = true → d j = true) → StepAtI F n P md ops Q X0 (val g) (J g d) (J g (fun j => if j = i then true else d j)) i o) : StepGI F n P md ops Q X0 val J i o := by
  intro g d a w hJ hun hdep _ hS
  exact wpOpIn_mono (fun a' w' hq => ⟨g, fun _ _ => rfl, hq.1, hq.2⟩) (h g d hun hdep a w hJ hS)
theorem stepGI_wp (hF : WideF F) (hi : ops[i]? = some o) (hg : o.guard = none) (hnd : ∀ c, o.op ≠ .defer c)
    (h : ∀ g d a w, J g d w → d i = false → (∀ j, bindsOn md o j = true → d j = true) → (∀ j oj, ops[j]? = some oj → d j = true → ∀ k, bindsOn md oj k = true → d k = true) → Seen md ops X0 (val g) i o a → o.wp P a w (fun a' w' => ∃ g', (∀ j, d j = true → val g' j = val g j) ∧ a' = a.put o.dst (val g' i) ∧ J g' (fun j => if j = i then true else d j) w') Q) : StepGI F n P md ops Q X0 val J i o := by
  intro g d a w hJ hun hdep hcl hS
  have hS' : Seen md ops X0 (val g) i o a := hS
  have h1 := h g d a w hJ hun hdep hcl hS'
  unfold wpOpIn
  rw [hi]
  simp only [Region.wanted, hg, if_true]
  refine ⟨fun f _ => hF.fn f, ?_⟩
  rw [Oper.semAt_plain F _ _ hnd]
  exact uponJ_of hF h1
theorem stepGI_build (hF : WideF F) (hi : ops[i]? = some o) (hg : o.guard = none) (t : TypeId) (x : Operand) (v : Value) (ho : o.op = .buildSlice t 1 #[(0, x)]) (hx : ∀ g, rdo md ops X0 (val g) i o x = some v)
    (h : ∀ g d w, J g d w → d i = false → (∀ j oj, ops[j]? = some oj → d j = true → ∀ k, bindsOn md oj k = true → d k = true) → ∃ g' w', (Instr.buildSlice t 1 #[(0, v)]).run P w = .ok (val g' i) w' ∧ (∀ j, d j = true → val g' j = val g j) ∧ J g' (fun j => if j = i then true else d j) w') : StepGI F n P md ops Q X0 val J i o := by
  refine stepGI_wp hF hi hg (fun c e => by rw [ho] at e; cases e) ?_
  intro g d a w hJ hun hdep hcl hS
  obtain ⟨g', w', h1, h2, h3⟩ := h g d w hJ hun hcl
  unfold Oper.wp execOp
  simp only [ho, List.map_toArray, List.map_cons, List.map_nil, hS.eval (hx g), Sem.run_bind, h1, Result.andThen_ok, Sem.run_pure, Oper.upon_value]
  exact ⟨g', h2, rfl, h3⟩
theorem stepGI_append (hF : WideF F) (hi : ops[i]? = some o) (hg : o.guard = none) (t : TypeId) (x y : Operand) (vx vy : G → Value) (ho : o.op = .call { callee := .builtin .append, args := #[x, y], argTypes := #[t, t] }) (hx : ∀ g, rdo md ops X0 (val g) i o x = some (vx g)) (hy : ∀ g, rdo md ops X0 (val g) i o y = some (vy g))
    (h : ∀ g d w, J g d w → d i = false → (∀ j, bindsOn md o j = true → d j = true) → (∀ j oj, ops[j]? = some oj → d j = true → ∀ k, bindsOn md oj k = true → d k = true) → ∃ g' w', (Builtin.append_ #[t, t] o.type #[vx g, vy g]).run P w = .ok (val g' i) w' ∧ (∀ j, d j = true → val g' j = val g j) ∧ J g' (fun j => if j = i then true else d j) w') : StepGI F n P md ops Q X0 val J i o := by
  refine stepGI_wp hF hi hg (fun c e => by rw [ho] at e; cases e) ?_
  intro g d a w hJ hun hdep hcl hS
  obtain ⟨g', w', h1, h2, h3⟩ := h g d w hJ hun hdep hcl
  unfold Oper.wp execOp
  simp only [ho, resolve, invoke, builtin, List.map_toArray, List.map_cons, List.map_nil, hS.eval (hx g), hS.eval (hy g), Sem.run_bind, h1, Result.andThen_ok, Sem.run_pure, Oper.upon_value]
  exact ⟨g', h2, rfl, h3⟩
/-- A struct that is made of four parts. -/
theorem stepGI_struct4 (hF : WideF F) (hi : ops[i]? = some o) (hg : o.guard = none) (t : TypeId) (x0 x1 x2 x3 : Operand) (v0 v1 v2 v3 : Value) (ho : o.op = .build t #[(0, x0), (1, x1), (2, x2), (3, x3)]) (hx : ∀ g, rdo md ops X0 (val g) i o x0 = some v0 ∧ rdo md ops X0 (val g) i o x1 = some v1 ∧ rdo md ops X0 (val g) i o x2 = some v2 ∧ rdo md ops X0 (val g) i o x3 = some v3)
    (h : ∀ g d w, J g d w → d i = false → (Instr.build t #[(0, v0), (1, v1), (2, v2), (3, v3)]).run P w = .ok (val g i) w ∧ J g (fun j => if j = i then true else d j) w) : StepGI F n P md ops Q X0 val J i o := by
  refine stepGI_wp hF hi hg (fun c e => by rw [ho] at e; cases e) ?_
  intro g d a w hJ hun hdep hcl hS
  obtain ⟨h1, h3⟩ := h g d w hJ hun
  obtain ⟨e0, e1, e2, e3⟩ := hx g
  unfold Oper.wp execOp
  simp only [ho, List.map_toArray, List.map_cons, List.map_nil, hS.eval e0, hS.eval e1, hS.eval e2, hS.eval e3, Sem.run_bind, h1, Result.andThen_ok, Sem.run_pure, Oper.upon_value]
  exact ⟨g, fun _ _ => rfl, rfl, h3⟩
end
end Go.Proofs.YtnkpohkodkjkfaaGreatDoor
namespace Go.Proofs.YtnkpohkodkjkfaaGreatDoor
open Go.RowKit Go.Shelf

end Go.Proofs.YtnkpohkodkjkfaaGreatDoor
