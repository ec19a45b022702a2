/- Sets held against each other; a new box: as the statements' walks ask them. -/
import Derived.Test.YtahlehgibcdfeaaOpn
namespace Go.Proofs.Ytahlehgibcdfeaa
open Go.RowKit

theorem Holds4.lt {w : World} {b : Nat} {c : Nat → Nat} (h : Holds4 w b c) : b < w.heap.size := (Array.getElem?_eq_some_iff.1 h).1
theorem run_alloc4 (w : World) : (Instr.alloc 24 true (.tuple #[])).run Try.prog w = .ok (.pointer (some ⟨w.heap.size, 0, none⟩)) (w.alloc (.cells (cells4 (fun _ => 0)) 24)) := by
  go_simp
  rfl
theorem alloc_below (w : World) (o : Obj) : Below w.heap.size w (w.alloc o) := (Below.refl _ w).alloc (Nat.le_refl _) o
theorem cln_ext {A B : Nat} (h : ∀ i, i < 100 → A.testBit i = B.testBit i) : cln A = cln B := by
  apply Nat.eq_of_testBit_eq; intro i
  rw [testBit_cln, testBit_cln]
  by_cases hi : i < 100
  · rw [h i hi]
  · simp [hi]
theorem neqs {x y : Operand} {A B : Nat} (h : A = B) (hA : A < S128) (w : World) : binRun Try.prog .neq 24 x y (sv A) (sv B) w = .ok (.bool false) w := by
  subst h; rw [neq4 x y A A hA hA]; simp
theorem eqls {x y : Operand} {A B : Nat} (h : A = B) (hA : A < S128) (w : World) : binRun Try.prog .eql 24 x y (sv A) (sv B) w = .ok (.bool true) w := by
  subst h; rw [eql4 x y A A hA hA]; simp

/-- A region in the text's order, by a table of values. -/
theorem wpOps_pure {P : Program} {ops : Array Oper} {Q : Exit → Act → World → Prop} (val : Nat → Value) (J : World → Prop)
    {X0 : Array Value} {df : List Deferred} (hok : tabOk .text ops X0.size = true) {w : World} (hJ : J w)
    (hsteps : stepsFrom (fun i o => StepAt P .text ops Q X0 val J J i o) ops.toList 0)
    (hend : ∀ w, J w → Q .normal { tmps := finL val ops.toList 0 X0, defers := df } w) : wpOps P ops Q (List.range ops.size) { tmps := X0, defers := df } w := by
  have key : ∀ (m k : Nat), k + m = ops.size → ∀ (listed : Array Bool) (a : Act) (w : World), TabSt .text ops X0 df val listed a → (∀ j, j < ops.size → (listed.getD j false = true ↔ j < k)) → J w → wpOps P ops Q (List.range' k m) a w := by
    intro m
    induction m with
    | zero =>
      intro k hk listed a w hS hL hJ
      rw [tab_end hS hok (fun j hj => (hL j hj).2 (by omega))]
      exact hend w hJ
    | succ m ih =>
      intro k hk listed a w hS hL hJ
      have hkl : k < ops.size := by omega
      obtain ⟨o, ho⟩ : ∃ o, ops[k]? = some o := ⟨_, Array.getElem?_eq_getElem hkl⟩
      have hst := stepsFrom_at ops.toList 0 hsteps k o (by simpa using ho)
      rw [Nat.zero_add] at hst
      have hun : listed.getD k false = false := by
        cases h : listed.getD k false with
        | false => rfl
        | true => have := (hL k hkl).1 h; omega
      have hc := List.all_eq_true.1 hok k (List.mem_range.2 hkl)
      rw [ho] at hc
      simp only [Bool.and_eq_true] at hc
      have hr : ∀ e ∈ o.after, Region.binds .text e = true → listed.getD e.on false = true := by
        intro e he hb
        have := List.all_eq_true.1 hc.1 e (by simpa using he)
        simp only [hb, Bool.not_true, Bool.false_or, decide_eq_true_eq] at this
        exact (hL e.on (by omega)).2 this
      rw [List.range'_succ, wpOps_cons]
      refine wpOp_mono (fun a' w' hq => ?_) (hst a w hJ (fun s v hv => hS.reads ho hun hr s v hv))
      obtain ⟨rfl, hJ'⟩ := hq
      refine ih (k + 1) (by omega) (listed.setIfInBounds k true) _ w' (hS.put hok ho hr (fun _ _ => rfl) hun) (fun j hj => ?_) hJ'
      rw [getD_set]
      by_cases e : k = j
      · subst e
        simp [hS.size, hkl]
      · rw [if_neg (fun c => e c.1), hL j hj]
        omega
  rw [List.range_eq_range']
  refine key ops.size 0 (by omega) (Array.replicate ops.size false) _ w ⟨by simp, rfl, rfl, ?_, ?_, fun _ _ => rfl⟩ (fun j hj => ?_) hJ
  · intro j oj _ h
    simp [Array.getD] at h
  · intro j s _ h
    simp [Array.getD] at h
  · simp [Array.getD]
end Go.Proofs.Ytahlehgibcdfeaa
