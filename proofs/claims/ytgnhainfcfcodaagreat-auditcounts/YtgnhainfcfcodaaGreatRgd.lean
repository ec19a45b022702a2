/- A region that draws its order and ends with a call that panics. For every program. -/
import Derived.Test.YtgnhainfcfcodaaGreatRgs
namespace Go.Proofs.YtgnhainfcfcodaaGreat
open Go.RowKit

/-- The law. G: what is found out on the way (where a block was laid). -/
theorem wpAny_tabD {P : Program} {md : Region.Mode} {ops : Array Oper} {Q : Exit → Act → World → Prop} {G : Type} (val : G → Nat → Value) (J : G → (Nat → Bool) → World → Prop)
    {X0 : Array Value} {df : List Deferred} (hok : tabOk md ops X0.size = true)
    (hend : ∀ g d w, (∀ j, j < ops.size → d j = true) → J g d w → Q .normal { tmps := finL (val g) ops.toList 0 X0, defers := df } w)
    (hstep : ∀ i o, ops[i]? = some o → ∀ g d a w, J g d w → a.defers = df → d i = false → (∀ j, bindsOn md o j = true → d j = true) → (∀ j oj, ops[j]? = some oj → d j = true → ∀ k, bindsOn md oj k = true → d k = true) → (∀ s v, rdv md ops X0 (val g) i o s = some v → a.tmps.getD s undef = v) →
      wpOp P ops Q i (fun a' w' => ∃ g', (∀ j, d j = true → val g' j = val g j) ∧ a' = a.put o.dst (val g' i) ∧ J g' (fun j => if j = i then true else d j) w') a w)
    (g : G) {w : World} (hJ : J g (fun _ => false) w) : wpAny P md ops Q ops.size (Array.replicate ops.size false) { tmps := X0, defers := df } w := by
  have key : ∀ k (listed : Array Bool) (a : Act) (w : World) (g : G), falses listed.toList = k → TabSt md ops X0 df (val g) listed a → J g (fun j => listed.getD j false) w → wpAny P md ops Q k listed a w := by
    intro k
    induction k with
    | zero =>
      intro listed a w g hk hS hJ
      have hall : ∀ j, j < ops.size → listed.getD j false = true := fun j hj => by
        have := falses_zero listed.toList j hk (by simpa [hS.size] using hj)
        simpa [Array.getD_eq_getD_getElem?] using this
      have hr : Region.ready md ops listed = [] := by
        apply List.eq_nil_iff_forall_not_mem.2
        intro j hj
        obtain ⟨h1, o, ho, _⟩ := mem_ready.1 hj
        have h2 := hall j (getElem?_lt ho)
        have h3 : j < listed.size := by rw [hS.size]; exact getElem?_lt ho
        simp [Array.getD, h3] at h1 h2
        rw [h1] at h2; cases h2
      refine ⟨hr, ?_⟩
      rw [tab_end hS hok hall]
      exact hend g _ w hall hJ
    | succ k ih =>
      intro listed a w g hk hS hJ
      have hun : ∀ i, Region.ready md ops listed = [] → i < ops.size → listed.getD i false = true := by
        intro i hn
        induction i using Nat.strongRecOn with
        | ind i ihi =>
          intro hi
          cases hl : listed.getD i false with
          | true => rfl
          | false =>
            have hlt : i < listed.size := by rw [hS.size]; exact hi
            obtain ⟨o, ho⟩ : ∃ o, ops[i]? = some o := ⟨_, Array.getElem?_eq_getElem hi⟩
            have hc := List.all_eq_true.1 hok i (List.mem_range.2 hi)
            rw [ho] at hc
            simp only [Bool.and_eq_true] at hc
            have hmem : i ∈ Region.ready md ops listed := mem_ready.2 ⟨by simp [Array.getD, hlt] at hl ⊢; exact hl, o, ho, fun e he hb => by
              have := List.all_eq_true.1 hc.1 e (by simpa using he)
              simp only [hb, Bool.not_true, Bool.false_or, decide_eq_true_eq] at this
              exact ihi e.on this (by omega)⟩
            rw [hn] at hmem; cases hmem
      refine ⟨fun hn => ?_, fun i hi => ?_⟩
      · have hall := hun
        rw [tab_end hS hok (fun j hj => hun j hn hj)]
        exact hend g _ w (fun j hj => hun j hn hj) hJ
      · obtain ⟨h1, o, ho, hr⟩ := mem_ready.1 hi
        have hlt : i < listed.size := by rw [hS.size]; exact getElem?_lt ho
        have h1' : listed.getD i false = false := by simp [Array.getD, hlt] at h1 ⊢; exact h1
        refine wpOp_mono (fun a' w' hq => ?_) (hstep i o ho g _ a w hJ hS.dfs h1' (fun j hj => ?_) (fun j oj hoj hd k hk => ?_) (fun s v hv => hS.reads ho h1' hr s v hv))
        · obtain ⟨g', hv, rfl, hJ'⟩ := hq
          refine ih (listed.setIfInBounds i true) _ w' g' ?_ (hS.put hok ho hr hv h1') ?_
          · have := falses_set listed.toList i (by simpa [Array.getD_eq_getD_getElem?, hlt] using h1)
            simp only [Array.toList_setIfInBounds]
            omega
          · have e : (fun j => (listed.setIfInBounds i true).getD j false) = (fun j => if j = i then true else listed.getD j false) := by
              funext j
              rw [getD_set]
              by_cases e : i = j
              · subst e; simp [hlt]
              · rw [if_neg (fun c => e c.1), if_neg (fun c => e c.symm)]
            rw [e]; exact hJ'
        · obtain ⟨e, he, hb, rfl⟩ := bindsOn_iff.1 hj
          exact hr e he hb
        · obtain ⟨e, he, hb, rfl⟩ := bindsOn_iff.1 hk
          exact hS.closed j oj hoj hd e he hb
  refine key _ _ _ _ g (by simp [falses_replicate]) ⟨by simp, rfl, rfl, ?_, ?_, fun _ _ => rfl⟩ ?_
  · intro j oj _ h
    simp [Array.getD] at h
  · intro j s _ h
    simp [Array.getD] at h
  · have e : (fun j => (Array.replicate ops.size false).getD j false) = (fun _ => false) := by funext j; simp [Array.getD]
    rw [e]; exact hJ


/-- All but the last one turn nothing; the last one leaves by a panic. -/
theorem wpAny_dies {P : Program} {md : Region.Mode} {ops : Array Oper} {Q : Exit → Act → World → Prop} (m : Nat) (val : Nat → Value) (J : World → Prop)
    {X0 : Array Value} {df : List Deferred} (hm : ops.size = m + 1) (hok : tabOk md ops X0.size = true) {w : World} (hJ : J w)
    (hsteps : stepsFrom (fun i o => StepAt P md ops Q X0 val J J i o) (ops.toList.take m) 0)
    (hlast : ∀ o, ops[m]? = some o → ∀ a w, J w → a.defers = df → Seen md ops X0 val m o a → wpOp P ops Q m (fun _ _ => False) a w) : wpAny P md ops Q ops.size (Array.replicate ops.size false) { tmps := X0, defers := df } w := by
  refine wpAny_tabD (G := Unit) (fun _ => val) (fun _ d w => d m = false ∧ J w) hok (fun _ d w hall h => ?_) (fun i o ho _ d a w h hd hun hdep hcl hrd => ?_) () ⟨rfl, hJ⟩
  · have := hall m (by omega)
    rw [h.1] at this
    cases this
  · have hil := getElem?_lt ho
    by_cases him : i < m
    · have hst := stepsFrom_at _ 0 hsteps i o (by rw [getElem?_take _ _ _ him]; simpa using ho)
      rw [Nat.zero_add] at hst
      refine wpOp_mono (fun a' w' hq => ?_) (hst a w h.2 hrd)
      obtain ⟨rfl, hJ'⟩ := hq
      refine ⟨(), fun _ _ => rfl, rfl, ?_, hJ'⟩
      show (if m = i then true else d m) = false
      rw [if_neg (by omega)]
      exact h.1
    · have e : i = m := by omega
      subst e
      exact wpOp_mono (fun a' w' hq => hq.elim) (hlast o ho a w h.2 hd hrd)
theorem call_dies {P : Program} {md : Region.Mode} {ops : Array Oper} {Q : Exit → Act → World → Prop} {X0 : Array Value} {val : Nat → Value} {J J2 : World → Prop} {i : Nat} {o : Oper} {df : List Deferred} {K : Act → World → Prop} (hi : ops[i]? = some o) (hg : GOk md ops X0 val i o) (f : FuncId) (xs : Array Operand) (ts : Array TypeId) (vs : List Value) (ho : o.op = .call { callee := .value (.func f), args := xs, argTypes := ts })
    (hx : xs.toList.map (rdo md ops X0 val i o) = vs.map some) (hen : ∀ args w, (callFunc f args).run P w = .ok (.enter f args) w) (ch : List PanicEntry) (hc : ∀ w, J w → Calls P f vs.toArray w fun e w' => e = .panicked ch ∧ J2 w') (hQ : ∀ a w, a.defers = df → J2 w → Q (.panic ch) a w) :
    ∀ a w, J w → a.defers = df → Seen md ops X0 val i o a → wpOp P ops Q i K a w := by
  intro a w hJ hd hS
  unfold wpOp
  rw [hi]
  simp only [wanted_of hS hg, if_true]
  refine .inl ?_
  unfold Oper.wp execOp
  have e : xs.map a.eval = vs.toArray := by
    apply Array.toList_inj.1
    rw [Array.toList_map]
    exact hS.evals _ _ hx
  have e2 : a.eval (.func f) = .func (.func f) #[] #[] := rfl
  simp only [ho, resolve, e, e2, Deferred.ofValue, Sem.run_bind, Sem.run_pure, Result.andThen_ok, invoke, Array.empty_append, Array.append_empty, hen, Oper.upon_enter]
  refine (hc w hJ).mono ?_
  rintro e' w' ⟨rfl, hJ'⟩
  exact hQ _ _ hd hJ'
end Go.Proofs.YtgnhainfcfcodaaGreat
