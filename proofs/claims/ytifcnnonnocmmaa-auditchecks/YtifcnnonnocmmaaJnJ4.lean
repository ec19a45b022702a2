import Derived.Test.YtifcnnonnocmmaaJnJ3
import Derived.Test.YtifcnnonnocmmaaRows
import Derived.ProofKit
import Derived.OpenShut
import Derived.Laws.IdiomArrays
import Derived.Test.YtifcnnonnocmmaaJnJ0
set_option maxHeartbeats 40000000
set_option maxRecDepth 100000
set_option linter.unusedVariables false
namespace Go.Proofs.Ytifcnnonnocmmaa
open Go.ChangeShapes Go.WideShapes Go.ChangeAt Go.RowKit
theorem cellsW : Try.prog.cellsOf 30 = 1 := by kernel_rfl
theorem nat_of_u32 {x : Int} (h : (Lit.int .u32 x).wf = true) : ∃ n : Nat, x = (n : Int) ∧ n < 4294967296 := by
 have := bounds_u32 h
 exact ⟨x.toNat, by omega, by omega⟩
end Go.Proofs.Ytifcnnonnocmmaa
namespace Go.Proofs.Ytifcnnonnocmmaa
open Go.RowKit
theorem wpOps_seq {P : Program} {ops : Array Oper} {Q : Exit → Act → World → Prop} (val : Nat → Value) (J : Nat → World → Prop)
   {X0 : Array Value} {df : List Deferred} (hok : tabOk .text ops X0.size = true) {w : World} (hJ : J 0 w)
   (hsteps : stepsFrom (fun i o => StepAt P .text ops Q X0 val (J i) (J (i + 1)) i o) ops.toList 0)
   (hend : ∀ w, J ops.size w → Q .normal { tmps := finL val ops.toList 0 X0, defers := df } w) : wpOps P ops Q (List.range ops.size) { tmps := X0, defers := df } w := by
 have key : ∀ (m k : Nat), k + m = ops.size → ∀ (listed : Array Bool) (a : Act) (w : World), TabSt .text ops X0 df val listed a → (∀ j, j < ops.size → (listed.getD j false = true ↔ j < k)) → J k w → wpOps P ops Q (List.range' k m) a w := by
   intro m
   induction m with
   | zero =>
    intro k hk listed a w hS hL hJ
    rw [tab_end hS hok (fun j hj => (hL j hj).2 (by omega))]
    have e : k = ops.size := by omega
    rw [e] at hJ
    exact hend w hJ
   | succ m ih =>
    intro k hk listed a w hS hL hJ
    have hkl : k < ops.size := by omega
    obtain ⟨o, ho⟩ : ∃ o, ops[k]? = some o := ⟨_, Array.getElem?_eq_getElem hkl⟩
    have hst := stepsFrom_at ops.toList 0 hsteps k o (by simpa using ho)
    rw [Nat.zero_add] at hst
    have hun : listed.getD k false = false := by
      cases h : listed.getD k false with
      | false => rfl
      | true => have := (hL k hkl).1 h; omega
    have hc := List.all_eq_true.1 hok k (List.mem_range.2 hkl)
    rw [ho] at hc
    simp only [Bool.and_eq_true] at hc
    have hr : ∀ e ∈ o.after, Region.binds .text e = true → listed.getD e.on false = true := by
      intro e he hb
      have := List.all_eq_true.1 hc.1 e (by simpa using he)
      simp only [hb, Bool.not_true, Bool.false_or, decide_eq_true_eq] at this
      exact (hL e.on (by omega)).2 this
    rw [List.range'_succ, wpOps_cons]
    refine wpOp_mono (fun a' w' hq => ?_) (hst a w hJ (fun s v hv => hS.reads ho hun hr s v hv))
    obtain ⟨rfl, hJ'⟩ := hq
    refine ih (k + 1) (by omega) (listed.setIfInBounds k true) _ w' (hS.put hok ho hr (fun _ _ => rfl) hun) (fun j hj => ?_) hJ'
    rw [getD_set]
    by_cases e : k = j
    · subst e
      simp [hS.size, hkl]
    · rw [if_neg (fun c => e c.1), hL j hj]
      omega
 rw [List.range_eq_range']
 refine key ops.size 0 (by omega) (Array.replicate ops.size false) _ w ⟨by simp, rfl, rfl, ?_, ?_, fun _ _ => rfl⟩ (fun j hj => ?_) hJ
 · intro j oj _ h
   simp [Array.getD] at h
 · intro j s _ h
   simp [Array.getD] at h
 · simp [Array.getD]
theorem wpOps_pure0 {P : Program} {ops : Array Oper} {Q : Exit → Act → World → Prop} (val : Nat → Value) (J : World → Prop)
  {X0 : Array Value} {df : List Deferred} (hok : tabOk .text ops X0.size = true) {w : World} (hJ : J w)
  (hsteps : stepsFrom (fun i o => StepAt P .text ops Q X0 val J J i o) ops.toList 0)
  (hend : ∀ w, J w → Q .normal { tmps := finL val ops.toList 0 X0, defers := df } w) : wpOps P ops Q (List.range ops.size) { tmps := X0, defers := df } w :=
 wpOps_seq val (fun _ => J) hok hJ hsteps hend
section
variable {P : Program} {md : Region.Mode} {ops : Array Oper} {Q : Exit → Act → World → Prop} {X0 : Array Value} {val : Nat → Value} {J J' : World → Prop} {i : Nat} {o : Oper}
theorem step_bi (hi : ops[i]? = some o) (hg : GOk md ops X0 val i o) (b : Builtin) (xs : Array Operand) (ts : Array TypeId) (vs : List Value) (ho : o.op = .call { callee := .builtin b, args := xs, argTypes := ts })
  (hx : xs.toList.map (rdo md ops X0 val i o) = vs.map some) (hr : ∀ cs w, J w → (builtin b ts o.type cs vs.toArray).run P w = .ok (.value (val i)) w) : StepAt P md ops Q X0 val J J i o :=
 step_of hi hg fun a w hJ hS => by
  unfold Oper.wp execOp
  have e : xs.map a.eval = vs.toArray := by
   apply Array.toList_inj.1
   rw [Array.toList_map]
   exact hS.evals _ _ hx
  simp only [ho, resolve, e, Sem.run_bind, Sem.run_pure, Result.andThen_ok, invoke, hr _ w hJ, Oper.upon_value]
  exact ⟨trivial, hJ⟩
end
def StepG {G : Type} (P : Program) (md : Region.Mode) (ops : Array Oper) (Q : Exit → Act → World → Prop) (X0 : Array Value) (val : G → Nat → Value) (J : G → (Nat → Bool) → World → Prop) (i : Nat) (o : Oper) : Prop :=
 ∀ g d a w, J g d w → d i = false → (∀ j, bindsOn md o j = true → d j = true) → (∀ j oj, ops[j]? = some oj → d j = true → ∀ k, bindsOn md oj k = true → d k = true) → (∀ s v, rdv md ops X0 (val g) i o s = some v → a.tmps.getD s undef = v) →
  wpOp P ops Q i (fun a' w' => ∃ g', (∀ j, d j = true → val g' j = val g j) ∧ a' = a.put o.dst (val g' i) ∧ J g' (fun j => if j = i then true else d j) w') a w
theorem zgo {G : Type} {P : Program} {md : Region.Mode} {ops : Array Oper} {Q : Exit → Act → World → Prop} {X0 : Array Value} {val : G → Nat → Value} {J : G → (Nat → Bool) → World → Prop} {i : Nat} {o : Oper}
  (h : ∀ g d, (∀ j, bindsOn md o j = true → d j = true) → StepAt P md ops Q X0 (val g) (J g d) (J g (fun j => if j = i then true else d j)) i o) : StepG P md ops Q X0 val J i o := by
 intro g d a w hJ _ hdep _ hS
 exact wpOp_mono (fun a' w' hq => ⟨g, fun _ _ => rfl, hq.1, hq.2⟩) (h g d hdep a w hJ hS)
theorem zwt {P : Program} {md : Region.Mode} {ops : Array Oper} {Q : Exit → Act → World → Prop} {G : Type} (val : G → Nat → Value) (J : G → (Nat → Bool) → World → Prop)
  {X0 : Array Value} {df : List Deferred} (hok : tabOk md ops X0.size = true) (g : G) {w : World} (hJ : J g (fun _ => false) w)
  (hstep : ∀ i o, ops[i]? = some o → StepG P md ops Q X0 val J i o)
  (hend : ∀ g d w, (∀ j, j < ops.size → d j = true) → J g d w → Q .normal { tmps := finL (val g) ops.toList 0 X0, defers := df } w) :
  wpAny P md ops Q ops.size (Array.replicate ops.size false) { tmps := X0, defers := df } w :=
 wpAny_tab val J hok hend (fun i o ho g d a w => hstep i o ho g d a w) g hJ
end Go.Proofs.Ytifcnnonnocmmaa
