/- A region in the text's order, by a table of values, where the world turns on the way. For every program. -/
import Derived.Test.YtngjjcmoekeciaaGreatDoorReg
namespace Go.Proofs.YtngjjcmoekeciaaGreatDoor
open Go.RowKit

theorem wpOps_seq {P : Program} {ops : Array Oper} {Q : Exit → Act → World → Prop} (val : Nat → Value) (J : Nat → World → Prop)
    {X0 : Array Value} {df : List Deferred} (hok : tabOk .text ops X0.size = true) {w : World} (hJ : J 0 w)
    (hsteps : stepsFrom (fun i o => StepAt P .text ops Q X0 val (J i) (J (i + 1)) i o) ops.toList 0)
    (hend : ∀ w, J ops.size w → Q .normal { tmps := finL val ops.toList 0 X0, defers := df } w) : wpOps P ops Q (List.range ops.size) { tmps := X0, defers := df } w := by
  have key : ∀ (m k : Nat), k + m = ops.size → ∀ (listed : Array Bool) (a : Act) (w : World), TabSt .text ops X0 df val listed a → (∀ j, j < ops.size → (listed.getD j false = true ↔ j < k)) → J k w → wpOps P ops Q (List.range' k m) a w := by
    intro m
    induction m with
    | zero =>
      intro k hk listed a w hS hL hJ
      rw [tab_end hS hok (fun j hj => (hL j hj).2 (by omega))]
      have e : k = ops.size := by omega
      rw [e] at hJ
      exact hend w hJ
    | succ m ih =>
      intro k hk listed a w hS hL hJ
      have hkl : k < ops.size := by omega
      obtain ⟨o, ho⟩ : ∃ o, ops[k]? = some o := ⟨_, Array.getElem?_eq_getElem hkl⟩
      have hst := stepsFrom_at ops.toList 0 hsteps k o (by simpa using ho)
      rw [Nat.zero_add] at hst
      have hun : listed.getD k false = false := by
        cases h : listed.getD k false with
        | false => rfl
        | true => have := (hL k hkl).1 h; omega
      have hc := List.all_eq_true.1 hok k (List.mem_range.2 hkl)
      rw [ho] at hc
      simp only [Bool.and_eq_true] at hc
      have hr : ∀ e ∈ o.after, Region.binds .text e = true → listed.getD e.on false = true := by
        intro e he hb
        have := List.all_eq_true.1 hc.1 e (by simpa using he)
        simp only [hb, Bool.not_true, Bool.false_or, decide_eq_true_eq] at this
        exact (hL e.on (by omega)).2 this
      rw [List.range'_succ, wpOps_cons]
      refine wpOp_mono (fun a' w' hq => ?_) (hst a w hJ (fun s v hv => hS.reads ho hun hr s v hv))
      obtain ⟨rfl, hJ'⟩ := hq
      refine ih (k + 1) (by omega) (listed.setIfInBounds k true) _ w' (hS.put hok ho hr (fun _ _ => rfl) hun) (fun j hj => ?_) hJ'
      rw [getD_set]
      by_cases e : k = j
      · subst e
        simp [hS.size, hkl]
      · rw [if_neg (fun c => e c.1), hL j hj]
        omega
  rw [List.range_eq_range']
  refine key ops.size 0 (by omega) (Array.replicate ops.size false) _ w ⟨by simp, rfl, rfl, ?_, ?_, fun _ _ => rfl⟩ (fun j hj => ?_) hJ
  · intro j oj _ h
    simp [Array.getD] at h
  · intro j s _ h
    simp [Array.getD] at h
  · simp [Array.getD]
theorem wpOps_pure0 {P : Program} {ops : Array Oper} {Q : Exit → Act → World → Prop} (val : Nat → Value) (J : World → Prop)
    {X0 : Array Value} {df : List Deferred} (hok : tabOk .text ops X0.size = true) {w : World} (hJ : J w)
    (hsteps : stepsFrom (fun i o => StepAt P .text ops Q X0 val J J i o) ops.toList 0)
    (hend : ∀ w, J w → Q .normal { tmps := finL val ops.toList 0 X0, defers := df } w) : wpOps P ops Q (List.range ops.size) { tmps := X0, defers := df } w :=
  wpOps_seq val (fun _ => J) hok hJ hsteps hend
/-- The last one turns the world. -/
theorem wpOps_last {P : Program} {ops : Array Oper} {Q : Exit → Act → World → Prop} (m : Nat) (val : Nat → Value) (J J' : World → Prop)
    {X0 : Array Value} {df : List Deferred} (hm : ops.size = m + 1) (hok : tabOk .text ops X0.size = true) {w : World} (hJ : J w)
    (hsteps : stepsFrom (fun i o => StepAt P .text ops Q X0 val J J i o) (ops.toList.take m) 0)
    (hlast : ∀ o, ops[m]? = some o → StepAt P .text ops Q X0 val J J' m o)
    (hend : ∀ w, J' w → Q .normal { tmps := finL val ops.toList 0 X0, defers := df } w) : wpOps P ops Q (List.range ops.size) { tmps := X0, defers := df } w := by
  refine wpOps_seq val (fun k => if k ≤ m then J else J') hok (by simpa using hJ) (stepsFrom_mk _ _ (fun i o ho => ?_)) (fun w h => hend w ?_)
  · rw [Nat.zero_add]
    have hi : ops[i]? = some o := by simpa using ho
    have hil := getElem?_lt hi
    by_cases h : i < m
    · have := stepsFrom_at _ 0 hsteps i o (by rw [getElem?_take _ _ _ h]; exact ho)
      rw [Nat.zero_add] at this
      have q1 : i ≤ m := by omega
      have q2 : i + 1 ≤ m := by omega
      simpa [q1, q2] using this
    · have e : i = m := by omega
      subst e
      have q1 : ¬ i + 1 ≤ i := by omega
      simpa [q1] using hlast o hi
  · have : ¬ m + 1 ≤ m := by omega
    simpa [hm, this] using h
section
variable {P : Program} {md : Region.Mode} {ops : Array Oper} {Q : Exit → Act → World → Prop} {X0 : Array Value} {val : Nat → Value} {J J' : World → Prop} {i : Nat} {o : Oper}
theorem step_box (hi : ops[i]? = some o) (hg : GOk md ops X0 val i o) (t : TypeId) (x : Operand) (p : Value) (ho : o.op = .box t x) (hx : rdo md ops X0 val i o x = some p) (hr : ∀ w, J w → ∃ w', (Instr.box t p).run P w = .ok (val i) w' ∧ J' w') : StepAt P md ops Q X0 val J J' i o :=
  step_of hi hg fun a w hJ hS => by
    unfold Oper.wp execOp
    obtain ⟨w', h1, h2⟩ := hr w hJ
    simp only [ho, hS.eval hx, Sem.run_bind, h1, Result.andThen_ok, Sem.run_pure, Oper.upon_value]
    exact ⟨trivial, h2⟩
theorem step_new (hi : ops[i]? = some o) (hg : GOk md ops X0 val i o) (t : TypeId) (ho : o.op = .alloc t) (hr : ∀ w, J w → ∃ w', (Instr.alloc t true (.tuple #[])).run P w = .ok (val i) w' ∧ J' w') : StepAt P md ops Q X0 val J J' i o :=
  step_of hi hg fun a w hJ hS => by
    unfold Oper.wp execOp
    obtain ⟨w', h1, h2⟩ := hr w hJ
    simp only [ho, Sem.run_bind, h1, Result.andThen_ok, Sem.run_pure, Oper.upon_value]
    exact ⟨trivial, h2⟩
theorem step_extract (hi : ops[i]? = some o) (hg : GOk md ops X0 val i o) (x : Operand) (k : Nat) (p : Value) (ho : o.op = .extract x k) (hx : rdo md ops X0 val i o x = some p) (hr : ∀ w, J w → (Instr.extract p k).run P w = .ok (val i) w) : StepAt P md ops Q X0 val J J i o :=
  step_of hi hg fun a w hJ hS => by
    unfold Oper.wp execOp
    simp only [ho, hS.eval hx, Sem.run_bind, hr w hJ, Result.andThen_ok, Sem.run_pure, Oper.upon_value]
    exact ⟨trivial, hJ⟩
theorem step_bi (hi : ops[i]? = some o) (hg : GOk md ops X0 val i o) (b : Builtin) (xs : Array Operand) (ts : Array TypeId) (vs : List Value) (ho : o.op = .call { callee := .builtin b, args := xs, argTypes := ts })
    (hx : xs.toList.map (rdo md ops X0 val i o) = vs.map some) (hr : ∀ cs w, J w → (builtin b ts o.type cs vs.toArray).run P w = .ok (.value (val i)) w) : StepAt P md ops Q X0 val J J i o :=
  step_of hi hg fun a w hJ hS => by
    unfold Oper.wp execOp
    have e : xs.map a.eval = vs.toArray := by
      apply Array.toList_inj.1
      rw [Array.toList_map]
      exact hS.evals _ _ hx
    simp only [ho, resolve, e, Sem.run_bind, Sem.run_pure, Result.andThen_ok, invoke, hr _ w hJ, Oper.upon_value]
    exact ⟨trivial, hJ⟩
end
end Go.Proofs.YtngjjcmoekeciaaGreatDoor
