/- SetAlgebra: for all three sets the laws of the algebra hold and the counts add up; no condition. -/
import Derived.Test.YtahlehgibcdfeaaRows
import Derived.WalkKit
import Derived.ProofKit
import Derived.OpenShut
import Derived.Test.YtahlehgibcdfeaaOpn
namespace Go.Proofs.Ytahlehgibcdfeaa
open Go.ChangeShapes Go.WideShapes Go.ChangeAt Go.RowKit
set_option linter.unusedVariables false

theorem own : ownKnob Try.prog.godebug = none := by kernel_rfl
/-- What lies where, while the two sets are made. -/
structure JJ (w : World) (A B C U M : Nat) (g : Nat × Nat) (x6 x7 x8 x9 : Bool) (W : World) : Prop where
  a : Holds4 W w.heap.size (wd A)
  b : Holds4 W (w.heap.size + 1) (wd B)
  c : Holds4 W (w.heap.size + 2) (wd C)
  below : Below w.heap.size w W
  u : x6 = true → w.heap.size + 3 ≤ g.1 ∧ Holds4 W g.1 (if x8 = true then wd U else fun _ => 0)
  m : x7 = true → w.heap.size + 3 ≤ g.2 ∧ Holds4 W g.2 (if x9 = true then wd M else fun _ => 0)
  ne : x6 = true → x7 = true → g.1 ≠ g.2
theorem JJ.carry {w : World} {A B C U M : Nat} {g : Nat × Nat} {x6 x7 x8 x9 : Bool} {W W' : World} (h : JJ w A B C U M g x6 x7 x8 x9 W) (hb : Below W.heap.size W W') : JJ w A B C U M g x6 x7 x8 x9 W' :=
  ⟨h.a.carry hb, h.b.carry hb, h.c.carry hb, bcarry h.below (Nat.le_refl _) hb, fun e => ⟨(h.u e).1, (h.u e).2.carry hb⟩, fun e => ⟨(h.m e).1, (h.m e).2.carry hb⟩, h.ne⟩
theorem Holds4.lt {w : World} {b : Nat} {c : Nat → Nat} (h : Holds4 w b c) : b < w.heap.size := (Array.getElem?_eq_some_iff.1 h).1
theorem run_alloc4 (w : World) : (Instr.alloc 24 true (.tuple #[])).run Try.prog w = .ok (.pointer (some ⟨w.heap.size, 0, none⟩)) (w.alloc (.cells (cells4 (fun _ => 0)) 24)) := by
  go_simp
  rfl
theorem alloc_below (w : World) (o : Obj) : Below w.heap.size w (w.alloc o) := (Below.refl _ w).alloc (Nat.le_refl _) o
theorem step_alloc {ops : Array Oper} {Q : Exit → Act → World → Prop} {i : Nat} {o : Oper} {a : Act} {w : World} {K : Act → World → Prop} (hi : ops[i]? = some o) (hg : o.guard = none) (ho : o.op = .alloc 24)
    (hK : K (a.put o.dst (.pointer (some ⟨w.heap.size, 0, none⟩))) (w.alloc (.cells (cells4 (fun _ => 0)) 24))) : wpOp Try.prog ops Q i K a w := by
  unfold wpOp
  rw [hi]
  simp only [Region.wanted, hg, if_true]
  refine .inl ?_
  unfold Oper.wp execOp
  simp only [ho, Sem.run_bind, run_alloc4, Result.andThen_ok, Sem.run_pure, Oper.upon_value]
  exact hK
def StepG {G : Type} (P : Program) (md : Region.Mode) (ops : Array Oper) (Q : Exit → Act → World → Prop) (X0 : Array Value) (val : G → Nat → Value) (J : G → (Nat → Bool) → World → Prop) (i : Nat) (o : Oper) : Prop :=
  ∀ g d a w, J g d w → d i = false → (∀ j, bindsOn md o j = true → d j = true) → (∀ j oj, ops[j]? = some oj → d j = true → ∀ k, bindsOn md oj k = true → d k = true) → (∀ s v, rdv md ops X0 (val g) i o s = some v → a.tmps.getD s undef = v) →
      wpOp P ops Q i (fun a' w' => ∃ g', (∀ j, d j = true → val g' j = val g j) ∧ a' = a.put o.dst (val g' i) ∧ J g' (fun j => if j = i then true else d j) w') a w
theorem stepG_of {G : Type} {P : Program} {md : Region.Mode} {ops : Array Oper} {Q : Exit → Act → World → Prop} {X0 : Array Value} {val : G → Nat → Value} {J : G → (Nat → Bool) → World → Prop} {i : Nat} {o : Oper}
    (h : ∀ g d, (∀ j, bindsOn md o j = true → d j = true) → StepAt P md ops Q X0 (val g) (J g d) (J g (fun j => if j = i then true else d j)) i o) : StepG P md ops Q X0 val J i o := by
  intro g d a w hJ _ hdep _ hS
  exact wpOp_mono (fun a' w' hq => ⟨g, fun _ _ => rfl, hq.1, hq.2⟩) (h g d hdep a w hJ hS)
theorem wpAny_tabG {P : Program} {md : Region.Mode} {ops : Array Oper} {Q : Exit → Act → World → Prop} {G : Type} (val : G → Nat → Value) (J : G → (Nat → Bool) → World → Prop)
    {X0 : Array Value} {df : List Deferred} (hok : tabOk md ops X0.size = true) (g : G) {w : World} (hJ : J g (fun _ => false) w)
    (hstep : ∀ i o, ops[i]? = some o → StepG P md ops Q X0 val J i o)
    (hend : ∀ g d w, (∀ j, j < ops.size → d j = true) → J g d w → Q .normal { tmps := finL (val g) ops.toList 0 X0, defers := df } w) :
    wpAny P md ops Q ops.size (Array.replicate ops.size false) { tmps := X0, defers := df } w :=
  wpAny_tab val J hok hend (fun i o ho g d a w => hstep i o ho g d a w) g hJ
theorem cln_ext {A B : Nat} (h : ∀ i, i < 100 → A.testBit i = B.testBit i) : cln A = cln B := by
  apply Nat.eq_of_testBit_eq; intro i
  rw [testBit_cln, testBit_cln]
  by_cases hi : i < 100
  · rw [h i hi]
  · simp [hi]
theorem neqs {x y : Operand} {A B : Nat} (h : A = B) (hA : A < S128) (w : World) : binRun Try.prog .neq 24 x y (sv A) (sv B) w = .ok (.bool false) w := by
  subst h; rw [neq4 x y A A hA hA]; simp
theorem eqls {x y : Operand} {A B : Nat} (h : A = B) (hA : A < S128) (w : World) : binRun Try.prog .eql 24 x y (sv A) (sv B) w = .ok (.bool true) w := by
  subst h; rw [eql4 x y A A hA hA]; simp
section
variable (A B C : Nat)
theorem alg1 : cln (A ||| B) = cln (B ||| A) := by rw [Nat.or_comm]
theorem alg2 : cln (A &&& B) = cln (B &&& A) := by rw [Nat.and_comm]
theorem cln_or : cln (A ||| B) = cln A ||| cln B := by
  apply Nat.eq_of_testBit_eq; intro i
  simp only [testBit_cln, Nat.testBit_or]
  cases decide (i < 100) <;> simp
theorem cln_and : cln (A &&& B) = cln A &&& cln B := by
  apply Nat.eq_of_testBit_eq; intro i
  simp only [testBit_cln, Nat.testBit_and]
  cases decide (i < 100) <;> simp
theorem alg3 : cnt (cln (cln (A ||| B))) + cnt (cln (cln (A &&& B))) = cnt (cln A) + cnt (cln B) := by
  rw [cln_cln, cln_cln, cln_or, cln_and, cnt_or_and]
theorem alg4 : cln (cln (A ||| B) ||| C) = cln (A ||| cln (B ||| C)) := by
  refine cln_ext (fun i hi => ?_)
  simp only [testBit_cln, Nat.testBit_or, hi, decide_true, Bool.true_and]
  cases A.testBit i <;> cases B.testBit i <;> cases C.testBit i <;> rfl
theorem alg5 : cln (cln (A &&& B) &&& C) = cln (A &&& cln (B &&& C)) := by
  refine cln_ext (fun i hi => ?_)
  simp only [testBit_cln, Nat.testBit_and, hi, decide_true, Bool.true_and]
  cases A.testBit i <;> cases B.testBit i <;> cases C.testBit i <;> rfl
theorem alg6 : cln (A &&& cln (B ||| C)) = cln (cln (A &&& B) ||| cln (A &&& C)) := by
  refine cln_ext (fun i hi => ?_)
  simp only [testBit_cln, Nat.testBit_and, Nat.testBit_or, hi, decide_true, Bool.true_and]
  cases A.testBit i <;> cases B.testBit i <;> cases C.testBit i <;> rfl
theorem alg7 : cln (dif A (cln (B ||| C))) = cln (cln (dif A B) &&& cln (dif A C)) := by
  refine cln_ext (fun i hi => ?_)
  simp only [testBit_cln, Nat.testBit_and, Nat.testBit_or, testBit_dif, hi, decide_true, Bool.true_and]
  cases A.testBit i <;> cases B.testBit i <;> cases C.testBit i <;> rfl
theorem alg8 : cln (cln (dif A B) ||| cln (A &&& B)) = cln A := by
  refine cln_ext (fun i hi => ?_)
  simp only [testBit_cln, Nat.testBit_and, Nat.testBit_or, testBit_dif, hi, decide_true, Bool.true_and]
  cases A.testBit i <;> cases B.testBit i <;> rfl
theorem alg9 : cnt (cln (cln (cln (dif A B) &&& B))) = 0 := by
  have : cln (cln (dif A B) &&& B) = cln 0 := by
    refine cln_ext (fun i hi => ?_)
    simp only [testBit_cln, Nat.testBit_and, testBit_dif, hi, decide_true, Bool.true_and, Nat.zero_testBit]
    cases A.testBit i <;> cases B.testBit i <;> rfl
  rw [this]; decide +kernel
end
set_option maxHeartbeats 4000000 in
set_option maxRecDepth 100000 in
theorem walk (N0 : Nat) (hN0 : N0 < S128) (N1 : Nat) (hN1 : N1 < S128) (N2 : Nat) (hN2 : N2 < S128) (w : World) :
    Calls Try.prog 3 #[sv N0, sv N1, sv N2] w fun e w' => e = .returned (.bool true) ∧ Below w.heap.size w w' := by
  have hmx : Try.prog.follows .mixedOrders = true := by kernel_rfl
  go_enter Try.func3, Try.ntmps3
  simp only [sv]
  go_wp2
  rename_i Q0 K0 hK
  refine wp_region_any hmx ?_
  refine wpAny_tabG (G := Nat × Nat) (fun g i__ => ([sv N0, sv N1, sv (cln (N0 ||| N1)), sv N0, sv N1, sv (cln (N0 &&& N1)), .pointer (some ⟨g.1, 0, none⟩), .pointer (some ⟨g.2, 0, none⟩), undef, undef] : List Value).getD i__ undef)
    (fun g d W => JJ w N0 N1 N2 (cln (N0 ||| N1)) (cln (N0 &&& N1)) g (d 6) (d 7) (d 8) (d 9) W) (by kernel_rfl) (0, 0)
    ⟨get_old (get_old (get_new (by simp))), get_old (get_new (by simp)), get_new (by simp), ((((Below.refl _ w).alloc (by simp) _).alloc (by simp) _).alloc (by simp; omega) _).drew, (fun e => by cases e), (fun e => by cases e), (fun e => by cases e)⟩ ?step ?fin
  case step =>
    intro i o ho
    have hi : i < 10 := getElem?_lt ho
    match i, hi, ho with
    | 0, _, ho =>
      cases ho
      refine stepG_of (fun g d _ => ?_)
      exact step_load rfl trivial _ _ _ rfl rfl (fun w hw => whole4 w _ N0 hw.a)
    | 1, _, ho =>
      cases ho
      refine stepG_of (fun g d _ => ?_)
      exact step_load rfl trivial _ _ _ rfl rfl (fun w hw => whole4 w _ N1 hw.b)
    | 2, _, ho =>
      cases ho
      refine stepG_of (fun g d _ => ?_)
      exact step_call rfl trivial 7 _ _ [sv N0, sv N1] rfl (by kernel_rfl) (enters_of Try.func7 (by kernel_rfl) rfl) (fun w hw => (union_any N0 N1 w).mono (by rintro e w' ⟨rfl, hb⟩; exact ⟨rfl, hw.carry hb⟩))
    | 3, _, ho =>
      cases ho
      refine stepG_of (fun g d _ => ?_)
      exact step_load rfl trivial _ _ _ rfl rfl (fun w hw => whole4 w _ N0 hw.a)
    | 4, _, ho =>
      cases ho
      refine stepG_of (fun g d _ => ?_)
      exact step_load rfl trivial _ _ _ rfl rfl (fun w hw => whole4 w _ N1 hw.b)
    | 5, _, ho =>
      cases ho
      refine stepG_of (fun g d _ => ?_)
      exact step_call rfl trivial 8 _ _ [sv N0, sv N1] rfl (by kernel_rfl) (enters_of Try.func8 (by kernel_rfl) rfl) (fun w hw => (meet_any N0 N1 w).mono (by rintro e w' ⟨rfl, hb⟩; exact ⟨rfl, hw.carry hb⟩))
    | 6, _, ho =>
      cases ho
      intro g d a W hJ hun hdep hcl hS
      have h8 : d 8 = false := by
        cases h : d 8 with
        | false => rfl
        | true => rw [hcl 8 _ rfl h 6 (by kernel_rfl)] at hun; cases hun
      refine step_alloc rfl rfl rfl ⟨(W.heap.size, g.2), ?_, rfl, ?_⟩
      · intro j hj
        match j with
        | 6 => rw [hj] at hun; cases hun
        | 0 => rfl
        | 1 => rfl
        | 2 => rfl
        | 3 => rfl
        | 4 => rfl
        | 5 => rfl
        | 7 => rfl
        | 8 => rfl
        | 9 => rfl
        | j + 10 => rfl
      · have hc := hJ.carry (alloc_below W (.cells (cells4 (fun _ => 0)) 24))
        have hl := hJ.c.lt
        refine ⟨hc.a, hc.b, hc.c, hc.below, fun _ => ⟨?_, ?_⟩, hc.m, fun _ h7 => ?_⟩
        · show w.heap.size + 3 ≤ W.heap.size; omega
        · have : (if (8 : Nat) = 6 then true else d 8) = false := by simp [h8]
          simp only [this]
          exact get_new rfl
        · have := (hJ.m h7).2.lt
          show W.heap.size ≠ g.2
          omega
    | 7, _, ho =>
      cases ho
      intro g d a W hJ hun hdep hcl hS
      have h9 : d 9 = false := by
        cases h : d 9 with
        | false => rfl
        | true => rw [hcl 9 _ rfl h 7 (by kernel_rfl)] at hun; cases hun
      refine step_alloc rfl rfl rfl ⟨(g.1, W.heap.size), ?_, rfl, ?_⟩
      · intro j hj
        match j with
        | 7 => rw [hj] at hun; cases hun
        | 0 => rfl
        | 1 => rfl
        | 2 => rfl
        | 3 => rfl
        | 4 => rfl
        | 5 => rfl
        | 6 => rfl
        | 8 => rfl
        | 9 => rfl
        | j + 10 => rfl
      · have hc := hJ.carry (alloc_below W (.cells (cells4 (fun _ => 0)) 24))
        have hl := hJ.c.lt
        refine ⟨hc.a, hc.b, hc.c, hc.below, hc.u, fun _ => ⟨?_, ?_⟩, fun h6 _ => ?_⟩
        · show w.heap.size + 3 ≤ W.heap.size; omega
        · have : (if (9 : Nat) = 7 then true else d 9) = false := by simp [h9]
          simp only [this]
          exact get_new rfl
        · have := (hJ.u h6).2.lt
          show g.1 ≠ W.heap.size
          omega
    | 8, _, ho =>
      cases ho
      refine stepG_of (fun g d hdep => ?_)
      have h6 : d 6 = true := hdep 6 (by kernel_rfl)
      refine step_store rfl trivial rfl _ _ _ _ _ rfl rfl rfl (fun w' hw => ⟨_, wstore4 w' _ _ (cln (N0 ||| N1)) (hw.u h6).2, ?_⟩)
      have hu := hw.u h6
      refine ⟨(hold4 (by omega)).trans hw.a, (hold4 (by omega)).trans hw.b, (hold4 (by omega)).trans hw.c, below4 hw.below (by omega) _, fun _ => ⟨hu.1, fin4 hu.2 _⟩, fun h7 => ⟨(hw.m h7).1, (hold4 (hw.ne h6 h7).symm).trans (hw.m h7).2⟩, hw.ne⟩
    | 9, _, ho =>
      cases ho
      refine stepG_of (fun g d hdep => ?_)
      have h7 : d 7 = true := hdep 7 (by kernel_rfl)
      refine step_store rfl trivial rfl _ _ _ _ _ rfl rfl rfl (fun w' hw => ⟨_, wstore4 w' _ _ (cln (N0 &&& N1)) (hw.m h7).2, ?_⟩)
      have hm := hw.m h7
      refine ⟨(hold4 (by omega)).trans hw.a, (hold4 (by omega)).trans hw.b, (hold4 (by omega)).trans hw.c, below4 hw.below (by omega) _, fun h6 => ⟨(hw.u h6).1, (hold4 (hw.ne h6 h7)).trans (hw.u h6).2⟩, fun _ => ⟨hm.1, fin4 hm.2 _⟩, hw.ne⟩
  case fin =>
    intro g d W hall hJ
    rw [hall 6 (by decide), hall 7 (by decide), hall 8 (by decide), hall 9 (by decide)] at hJ
    obtain ⟨ha, hb, hc, hbel, hu, hm, hne⟩ := hJ
    obtain ⟨hu1, hu2⟩ := hu rfl
    obtain ⟨hm1, hm2⟩ := hm rfl
    simp only [if_true] at hu2 hm2
    obtain ⟨gu, gm⟩ := g
    refine hK _ _ ?_
    simp only [finL, List.getD_cons_zero, List.getD_cons_succ, Nat.zero_add, Nat.reduceAdd, List.setIfInBounds_toArray, List.set_cons_zero, List.set_cons_succ]
    clear hK
    have hJ : JJ w N0 N1 N2 (cln (N0 ||| N1)) (cln (N0 &&& N1)) (gu, gm) true true true true W := ⟨ha, hb, hc, hbel, fun _ => ⟨hu1, hu2⟩, fun _ => ⟨hm1, hm2⟩, hne⟩
    clear ha hb hc hbel hu1 hu2 hm1 hm2 hne hu hm
    have b0 := cnt_le (cln N0)
    have b1 := cnt_le (cln N1)
    have b2 := cnt_le (cln (cln (N0 ||| N1)))
    have b3 := cnt_le (cln (cln (N0 &&& N1)))
    go_wp2
    rename_i Q1 K1 hK
    refine wp_region_any hmx ?_
    refine wpAny_pure (fun i__ => ([(sv (cln (N0 ||| N1))), (sv N1), (sv N0), (sv (cln (N1 ||| N0))), (.bool false), (.bool false), (sv (cln (N0 &&& N1))), (sv N1), (sv N0), (sv (cln (N1 &&& N0))), (.bool false), (.bool false), (.bool false), (sv (cln (N0 ||| N1))), (.int .i64 ((cnt (cln (cln (N0 ||| N1))) : Nat) : Int)), (sv (cln (N0 &&& N1))), (.int .i64 ((cnt (cln (cln (N0 &&& N1))) : Nat) : Int)), (.int .i64 ((cnt (cln (cln (N0 ||| N1))) + cnt (cln (cln (N0 &&& N1))) : Nat) : Int)), (sv N0), (.int .i64 ((cnt (cln N0) : Nat) : Int)), (sv N1), (.int .i64 ((cnt (cln N1) : Nat) : Int)), (.int .i64 ((cnt (cln N0) + cnt (cln N1) : Nat) : Int)), (.bool false), (.bool false)] : List Value).getD i__ undef) (fun W => JJ w N0 N1 N2 (cln (N0 ||| N1)) (cln (N0 &&& N1)) (gu, gm) true true true true W) (by kernel_rfl) (hJ.carry (Below.refl _ _).drew) ?_ ?_
    · refine (stepsFrom_cons ?_ (stepsFrom_cons ?_ (stepsFrom_cons ?_ (stepsFrom_cons ?_ (stepsFrom_cons ?_ (stepsFrom_cons ?_ (stepsFrom_cons ?_ (stepsFrom_cons ?_ (stepsFrom_cons ?_ (stepsFrom_cons ?_ (stepsFrom_cons ?_ (stepsFrom_cons ?_ (stepsFrom_cons ?_ (stepsFrom_cons ?_ (stepsFrom_cons ?_ (stepsFrom_cons ?_ (stepsFrom_cons ?_ (stepsFrom_cons ?_ (stepsFrom_cons ?_ (stepsFrom_cons ?_ (stepsFrom_cons ?_ (stepsFrom_cons ?_ (stepsFrom_cons ?_ (stepsFrom_cons ?_ (stepsFrom_cons ?_ trivial)))))))))))))))))))))))))
      · exact step_load rfl trivial _ _ _ rfl rfl (fun w hw => whole4 w _ (cln (N0 ||| N1)) (hw.u rfl).2)
      · exact step_load rfl trivial _ _ _ rfl rfl (fun w hw => whole4 w _ N1 hw.b)
      · exact step_load rfl trivial _ _ _ rfl rfl (fun w hw => whole4 w _ N0 hw.a)
      · exact step_call rfl trivial 7 _ _ [(sv N1), (sv N0)] rfl (by kernel_rfl) (enters_of Try.func7 (by kernel_rfl) rfl) (fun w hw => (union_any N1 N0 w).mono (by rintro e w' ⟨rfl, hb⟩; exact ⟨rfl, hw.carry hb⟩))
      · exact step_binOp rfl trivial _ _ _ _ _ _ _ rfl rfl rfl (fun w hw => neqs (alg1 N0 N1) (cln_lt' _) w)
      · exact step_move rfl trivial _ rfl (by kernel_rfl)
      · exact step_load rfl (by exact ⟨_, rfl, by kernel_rfl⟩) _ _ _ rfl rfl (fun w hw => whole4 w _ (cln (N0 &&& N1)) (hw.m rfl).2)
      · exact step_load rfl (by exact ⟨_, rfl, by kernel_rfl⟩) _ _ _ rfl rfl (fun w hw => whole4 w _ N1 hw.b)
      · exact step_load rfl (by exact ⟨_, rfl, by kernel_rfl⟩) _ _ _ rfl rfl (fun w hw => whole4 w _ N0 hw.a)
      · exact step_call rfl (by exact ⟨_, rfl, by kernel_rfl⟩) 8 _ _ [(sv N1), (sv N0)] rfl (by kernel_rfl) (enters_of Try.func8 (by kernel_rfl) rfl) (fun w hw => (meet_any N1 N0 w).mono (by rintro e w' ⟨rfl, hb⟩; exact ⟨rfl, hw.carry hb⟩))
      · exact step_binOp rfl (by exact ⟨_, rfl, by kernel_rfl⟩) _ _ _ _ _ _ _ rfl rfl rfl (fun w hw => neqs (alg2 N0 N1) (cln_lt' _) w)
      · exact step_pick rfl trivial _ _ _ false rfl (by kernel_rfl) (by kernel_rfl)
      · exact step_move rfl trivial _ rfl (by kernel_rfl)
      · exact step_load rfl (by exact ⟨_, rfl, by kernel_rfl⟩) _ _ _ rfl rfl (fun w hw => whole4 w _ (cln (N0 ||| N1)) (hw.u rfl).2)
      · exact step_call rfl (by exact ⟨_, rfl, by kernel_rfl⟩) 9 _ _ [(sv (cln (N0 ||| N1)))] rfl (by kernel_rfl) (enters_of Try.func9 (by kernel_rfl) rfl) (fun w hw => (count_any (cln (N0 ||| N1)) w).mono (by rintro e w' ⟨rfl, hb⟩; exact ⟨rfl, hw.carry hb⟩))
      · exact step_load rfl (by exact ⟨_, rfl, by kernel_rfl⟩) _ _ _ rfl rfl (fun w hw => whole4 w _ (cln (N0 &&& N1)) (hw.m rfl).2)
      · exact step_call rfl (by exact ⟨_, rfl, by kernel_rfl⟩) 9 _ _ [(sv (cln (N0 &&& N1)))] rfl (by kernel_rfl) (enters_of Try.func9 (by kernel_rfl) rfl) (fun w hw => (count_any (cln (N0 &&& N1)) w).mono (by rintro e w' ⟨rfl, hb⟩; exact ⟨rfl, hw.carry hb⟩))
      · exact step_binOp rfl (by exact ⟨_, rfl, by kernel_rfl⟩) _ _ _ _ _ _ _ rfl rfl rfl (fun w hw => bin_add64 _ _ _ (by rw [IntKind.wrap_i64]; omega))
      · exact step_load rfl (by exact ⟨_, rfl, by kernel_rfl⟩) _ _ _ rfl rfl (fun w hw => whole4 w _ N0 hw.a)
      · exact step_call rfl (by exact ⟨_, rfl, by kernel_rfl⟩) 9 _ _ [(sv N0)] rfl (by kernel_rfl) (enters_of Try.func9 (by kernel_rfl) rfl) (fun w hw => (count_any N0 w).mono (by rintro e w' ⟨rfl, hb⟩; exact ⟨rfl, hw.carry hb⟩))
      · exact step_load rfl (by exact ⟨_, rfl, by kernel_rfl⟩) _ _ _ rfl rfl (fun w hw => whole4 w _ N1 hw.b)
      · exact step_call rfl (by exact ⟨_, rfl, by kernel_rfl⟩) 9 _ _ [(sv N1)] rfl (by kernel_rfl) (enters_of Try.func9 (by kernel_rfl) rfl) (fun w hw => (count_any N1 w).mono (by rintro e w' ⟨rfl, hb⟩; exact ⟨rfl, hw.carry hb⟩))
      · exact step_binOp rfl (by exact ⟨_, rfl, by kernel_rfl⟩) _ _ _ _ _ _ _ rfl rfl rfl (fun w hw => bin_add64 _ _ _ (by rw [IntKind.wrap_i64]; omega))
      · exact step_binOp rfl (by exact ⟨_, rfl, by kernel_rfl⟩) _ _ _ _ _ _ _ rfl rfl rfl (fun w hw => (bin_neq .i64 _ _).trans (by rw [alg3]; simp))
      · exact step_pick rfl trivial _ _ _ false rfl (by kernel_rfl) (by kernel_rfl)
    intro W hW
    refine hK _ _ ?_
    simp only [finL, List.getD_cons_zero, List.getD_cons_succ, Nat.zero_add, Nat.reduceAdd, List.setIfInBounds_toArray, List.set_cons_zero, List.set_cons_succ]
    clear hJ hK
    go_wp2
    rename_i K2 hK
    refine wp_region_any hmx ?_
    refine wpAny_pure (fun i__ => ([(sv (cln (N0 ||| N1))), (sv N2), (sv (cln ((cln (N0 ||| N1)) ||| N2))), (sv N0), (sv N1), (sv N2), (sv (cln (N1 ||| N2))), (sv (cln (N0 ||| (cln (N1 ||| N2))))), (.bool false), (.bool false), (sv (cln (N0 &&& N1))), (sv N2), (sv (cln ((cln (N0 &&& N1)) &&& N2))), (sv N0), (sv N1), (sv N2), (sv (cln (N1 &&& N2))), (sv (cln (N0 &&& (cln (N1 &&& N2))))), (.bool false), (.bool false)] : List Value).getD i__ undef) (fun W => JJ w N0 N1 N2 (cln (N0 ||| N1)) (cln (N0 &&& N1)) (gu, gm) true true true true W) (by kernel_rfl) (hW.carry (Below.refl _ _).drew) ?_ ?_
    · refine (stepsFrom_cons ?_ (stepsFrom_cons ?_ (stepsFrom_cons ?_ (stepsFrom_cons ?_ (stepsFrom_cons ?_ (stepsFrom_cons ?_ (stepsFrom_cons ?_ (stepsFrom_cons ?_ (stepsFrom_cons ?_ (stepsFrom_cons ?_ (stepsFrom_cons ?_ (stepsFrom_cons ?_ (stepsFrom_cons ?_ (stepsFrom_cons ?_ (stepsFrom_cons ?_ (stepsFrom_cons ?_ (stepsFrom_cons ?_ (stepsFrom_cons ?_ (stepsFrom_cons ?_ (stepsFrom_cons ?_ trivial))))))))))))))))))))
      · exact step_load rfl trivial _ _ _ rfl rfl (fun w hw => whole4 w _ (cln (N0 ||| N1)) (hw.u rfl).2)
      · exact step_load rfl trivial _ _ _ rfl rfl (fun w hw => whole4 w _ N2 hw.c)
      · exact step_call rfl trivial 7 _ _ [(sv (cln (N0 ||| N1))), (sv N2)] rfl (by kernel_rfl) (enters_of Try.func7 (by kernel_rfl) rfl) (fun w hw => (union_any (cln (N0 ||| N1)) N2 w).mono (by rintro e w' ⟨rfl, hb⟩; exact ⟨rfl, hw.carry hb⟩))
      · exact step_load rfl trivial _ _ _ rfl rfl (fun w hw => whole4 w _ N0 hw.a)
      · exact step_load rfl trivial _ _ _ rfl rfl (fun w hw => whole4 w _ N1 hw.b)
      · exact step_load rfl trivial _ _ _ rfl rfl (fun w hw => whole4 w _ N2 hw.c)
      · exact step_call rfl trivial 7 _ _ [(sv N1), (sv N2)] rfl (by kernel_rfl) (enters_of Try.func7 (by kernel_rfl) rfl) (fun w hw => (union_any N1 N2 w).mono (by rintro e w' ⟨rfl, hb⟩; exact ⟨rfl, hw.carry hb⟩))
      · exact step_call rfl trivial 7 _ _ [(sv N0), (sv (cln (N1 ||| N2)))] rfl (by kernel_rfl) (enters_of Try.func7 (by kernel_rfl) rfl) (fun w hw => (union_any N0 (cln (N1 ||| N2)) w).mono (by rintro e w' ⟨rfl, hb⟩; exact ⟨rfl, hw.carry hb⟩))
      · exact step_binOp rfl trivial _ _ _ _ _ _ _ rfl rfl rfl (fun w hw => neqs (alg4 N0 N1 N2) (cln_lt' _) w)
      · exact step_move rfl trivial _ rfl (by kernel_rfl)
      · exact step_load rfl (by exact ⟨_, rfl, by kernel_rfl⟩) _ _ _ rfl rfl (fun w hw => whole4 w _ (cln (N0 &&& N1)) (hw.m rfl).2)
      · exact step_load rfl (by exact ⟨_, rfl, by kernel_rfl⟩) _ _ _ rfl rfl (fun w hw => whole4 w _ N2 hw.c)
      · exact step_call rfl (by exact ⟨_, rfl, by kernel_rfl⟩) 8 _ _ [(sv (cln (N0 &&& N1))), (sv N2)] rfl (by kernel_rfl) (enters_of Try.func8 (by kernel_rfl) rfl) (fun w hw => (meet_any (cln (N0 &&& N1)) N2 w).mono (by rintro e w' ⟨rfl, hb⟩; exact ⟨rfl, hw.carry hb⟩))
      · exact step_load rfl (by exact ⟨_, rfl, by kernel_rfl⟩) _ _ _ rfl rfl (fun w hw => whole4 w _ N0 hw.a)
      · exact step_load rfl (by exact ⟨_, rfl, by kernel_rfl⟩) _ _ _ rfl rfl (fun w hw => whole4 w _ N1 hw.b)
      · exact step_load rfl (by exact ⟨_, rfl, by kernel_rfl⟩) _ _ _ rfl rfl (fun w hw => whole4 w _ N2 hw.c)
      · exact step_call rfl (by exact ⟨_, rfl, by kernel_rfl⟩) 8 _ _ [(sv N1), (sv N2)] rfl (by kernel_rfl) (enters_of Try.func8 (by kernel_rfl) rfl) (fun w hw => (meet_any N1 N2 w).mono (by rintro e w' ⟨rfl, hb⟩; exact ⟨rfl, hw.carry hb⟩))
      · exact step_call rfl (by exact ⟨_, rfl, by kernel_rfl⟩) 8 _ _ [(sv N0), (sv (cln (N1 &&& N2)))] rfl (by kernel_rfl) (enters_of Try.func8 (by kernel_rfl) rfl) (fun w hw => (meet_any N0 (cln (N1 &&& N2)) w).mono (by rintro e w' ⟨rfl, hb⟩; exact ⟨rfl, hw.carry hb⟩))
      · exact step_binOp rfl (by exact ⟨_, rfl, by kernel_rfl⟩) _ _ _ _ _ _ _ rfl rfl rfl (fun w hw => neqs (alg5 N0 N1 N2) (cln_lt' _) w)
      · exact step_pick rfl trivial _ _ _ false rfl (by kernel_rfl) (by kernel_rfl)
    intro W hW
    refine hK _ _ ?_
    simp only [finL, List.getD_cons_zero, List.getD_cons_succ, Nat.zero_add, Nat.reduceAdd, List.setIfInBounds_toArray, List.set_cons_zero, List.set_cons_succ]
    clear hK
    go_wp2
    rename_i K3 hK
    refine wp_region_any hmx ?_
    refine wpAny_pure (fun i__ => ([(sv N0), (sv N1), (sv N2), (sv (cln (N1 ||| N2))), (sv (cln (N0 &&& (cln (N1 ||| N2))))), (sv (cln (N0 &&& N1))), (sv N0), (sv N2), (sv (cln (N0 &&& N2))), (sv (cln ((cln (N0 &&& N1)) ||| (cln (N0 &&& N2))))), (.bool false), (.bool false), (sv N0), (sv N1), (sv N2), (sv (cln (N1 ||| N2))), (sv (cln (dif N0 (cln (N1 ||| N2))))), (sv N0), (sv N1), (sv (cln (dif N0 N1))), (sv N0), (sv N2), (sv (cln (dif N0 N2))), (sv (cln ((cln (dif N0 N1)) &&& (cln (dif N0 N2))))), (.bool false), (.bool false)] : List Value).getD i__ undef) (fun W => JJ w N0 N1 N2 (cln (N0 ||| N1)) (cln (N0 &&& N1)) (gu, gm) true true true true W) (by kernel_rfl) (hW.carry (Below.refl _ _).drew) ?_ ?_
    · refine (stepsFrom_cons ?_ (stepsFrom_cons ?_ (stepsFrom_cons ?_ (stepsFrom_cons ?_ (stepsFrom_cons ?_ (stepsFrom_cons ?_ (stepsFrom_cons ?_ (stepsFrom_cons ?_ (stepsFrom_cons ?_ (stepsFrom_cons ?_ (stepsFrom_cons ?_ (stepsFrom_cons ?_ (stepsFrom_cons ?_ (stepsFrom_cons ?_ (stepsFrom_cons ?_ (stepsFrom_cons ?_ (stepsFrom_cons ?_ (stepsFrom_cons ?_ (stepsFrom_cons ?_ (stepsFrom_cons ?_ (stepsFrom_cons ?_ (stepsFrom_cons ?_ (stepsFrom_cons ?_ (stepsFrom_cons ?_ (stepsFrom_cons ?_ (stepsFrom_cons ?_ trivial))))))))))))))))))))))))))
      · exact step_load rfl trivial _ _ _ rfl rfl (fun w hw => whole4 w _ N0 hw.a)
      · exact step_load rfl trivial _ _ _ rfl rfl (fun w hw => whole4 w _ N1 hw.b)
      · exact step_load rfl trivial _ _ _ rfl rfl (fun w hw => whole4 w _ N2 hw.c)
      · exact step_call rfl trivial 7 _ _ [(sv N1), (sv N2)] rfl (by kernel_rfl) (enters_of Try.func7 (by kernel_rfl) rfl) (fun w hw => (union_any N1 N2 w).mono (by rintro e w' ⟨rfl, hb⟩; exact ⟨rfl, hw.carry hb⟩))
      · exact step_call rfl trivial 8 _ _ [(sv N0), (sv (cln (N1 ||| N2)))] rfl (by kernel_rfl) (enters_of Try.func8 (by kernel_rfl) rfl) (fun w hw => (meet_any N0 (cln (N1 ||| N2)) w).mono (by rintro e w' ⟨rfl, hb⟩; exact ⟨rfl, hw.carry hb⟩))
      · exact step_load rfl trivial _ _ _ rfl rfl (fun w hw => whole4 w _ (cln (N0 &&& N1)) (hw.m rfl).2)
      · exact step_load rfl trivial _ _ _ rfl rfl (fun w hw => whole4 w _ N0 hw.a)
      · exact step_load rfl trivial _ _ _ rfl rfl (fun w hw => whole4 w _ N2 hw.c)
      · exact step_call rfl trivial 8 _ _ [(sv N0), (sv N2)] rfl (by kernel_rfl) (enters_of Try.func8 (by kernel_rfl) rfl) (fun w hw => (meet_any N0 N2 w).mono (by rintro e w' ⟨rfl, hb⟩; exact ⟨rfl, hw.carry hb⟩))
      · exact step_call rfl trivial 7 _ _ [(sv (cln (N0 &&& N1))), (sv (cln (N0 &&& N2)))] rfl (by kernel_rfl) (enters_of Try.func7 (by kernel_rfl) rfl) (fun w hw => (union_any (cln (N0 &&& N1)) (cln (N0 &&& N2)) w).mono (by rintro e w' ⟨rfl, hb⟩; exact ⟨rfl, hw.carry hb⟩))
      · exact step_binOp rfl trivial _ _ _ _ _ _ _ rfl rfl rfl (fun w hw => neqs (alg6 N0 N1 N2) (cln_lt' _) w)
      · exact step_move rfl trivial _ rfl (by kernel_rfl)
      · exact step_load rfl (by exact ⟨_, rfl, by kernel_rfl⟩) _ _ _ rfl rfl (fun w hw => whole4 w _ N0 hw.a)
      · exact step_load rfl (by exact ⟨_, rfl, by kernel_rfl⟩) _ _ _ rfl rfl (fun w hw => whole4 w _ N1 hw.b)
      · exact step_load rfl (by exact ⟨_, rfl, by kernel_rfl⟩) _ _ _ rfl rfl (fun w hw => whole4 w _ N2 hw.c)
      · exact step_call rfl (by exact ⟨_, rfl, by kernel_rfl⟩) 7 _ _ [(sv N1), (sv N2)] rfl (by kernel_rfl) (enters_of Try.func7 (by kernel_rfl) rfl) (fun w hw => (union_any N1 N2 w).mono (by rintro e w' ⟨rfl, hb⟩; exact ⟨rfl, hw.carry hb⟩))
      · exact step_call rfl (by exact ⟨_, rfl, by kernel_rfl⟩) 10 _ _ [(sv N0), (sv (cln (N1 ||| N2)))] rfl (by kernel_rfl) (enters_of Try.func10 (by kernel_rfl) rfl) (fun w hw => (less_any N0 (cln (N1 ||| N2)) w).mono (by rintro e w' ⟨rfl, hb⟩; exact ⟨rfl, hw.carry hb⟩))
      · exact step_load rfl (by exact ⟨_, rfl, by kernel_rfl⟩) _ _ _ rfl rfl (fun w hw => whole4 w _ N0 hw.a)
      · exact step_load rfl (by exact ⟨_, rfl, by kernel_rfl⟩) _ _ _ rfl rfl (fun w hw => whole4 w _ N1 hw.b)
      · exact step_call rfl (by exact ⟨_, rfl, by kernel_rfl⟩) 10 _ _ [(sv N0), (sv N1)] rfl (by kernel_rfl) (enters_of Try.func10 (by kernel_rfl) rfl) (fun w hw => (less_any N0 N1 w).mono (by rintro e w' ⟨rfl, hb⟩; exact ⟨rfl, hw.carry hb⟩))
      · exact step_load rfl (by exact ⟨_, rfl, by kernel_rfl⟩) _ _ _ rfl rfl (fun w hw => whole4 w _ N0 hw.a)
      · exact step_load rfl (by exact ⟨_, rfl, by kernel_rfl⟩) _ _ _ rfl rfl (fun w hw => whole4 w _ N2 hw.c)
      · exact step_call rfl (by exact ⟨_, rfl, by kernel_rfl⟩) 10 _ _ [(sv N0), (sv N2)] rfl (by kernel_rfl) (enters_of Try.func10 (by kernel_rfl) rfl) (fun w hw => (less_any N0 N2 w).mono (by rintro e w' ⟨rfl, hb⟩; exact ⟨rfl, hw.carry hb⟩))
      · exact step_call rfl (by exact ⟨_, rfl, by kernel_rfl⟩) 8 _ _ [(sv (cln (dif N0 N1))), (sv (cln (dif N0 N2)))] rfl (by kernel_rfl) (enters_of Try.func8 (by kernel_rfl) rfl) (fun w hw => (meet_any (cln (dif N0 N1)) (cln (dif N0 N2)) w).mono (by rintro e w' ⟨rfl, hb⟩; exact ⟨rfl, hw.carry hb⟩))
      · exact step_binOp rfl (by exact ⟨_, rfl, by kernel_rfl⟩) _ _ _ _ _ _ _ rfl rfl rfl (fun w hw => neqs (alg7 N0 N1 N2) (cln_lt' _) w)
      · exact step_pick rfl trivial _ _ _ false rfl (by kernel_rfl) (by kernel_rfl)
    intro W hW
    refine hK _ _ ?_
    simp only [finL, List.getD_cons_zero, List.getD_cons_succ, Nat.zero_add, Nat.reduceAdd, List.setIfInBounds_toArray, List.set_cons_zero, List.set_cons_succ]
    clear hK
    go_wp2
    rename_i K4 hK
    refine wp_region_any hmx ?_
    refine wpAny_pure (fun i__ => ([(.bool true), (.bool true), (sv N0), (sv N1), (sv (cln (dif N0 N1))), (sv (cln (N0 &&& N1))), (sv (cln ((cln (dif N0 N1)) ||| (cln (N0 &&& N1))))), (sv N0), (sv (cln N0)), (.bool true), (.bool true), (.bool true), (sv N0), (sv N1), (sv (cln (dif N0 N1))), (sv N1), (sv (cln ((cln (dif N0 N1)) &&& N1))), (.int .i64 ((cnt (cln (cln ((cln (dif N0 N1)) &&& N1))) : Nat) : Int)), (.bool true), (.bool true), (.bool true)] : List Value).getD i__ undef) (fun W => JJ w N0 N1 N2 (cln (N0 ||| N1)) (cln (N0 &&& N1)) (gu, gm) true true true true W) (by kernel_rfl) (hW.carry (Below.refl _ _).drew) ?_ ?_
    · refine (stepsFrom_cons ?_ (stepsFrom_cons ?_ (stepsFrom_cons ?_ (stepsFrom_cons ?_ (stepsFrom_cons ?_ (stepsFrom_cons ?_ (stepsFrom_cons ?_ (stepsFrom_cons ?_ (stepsFrom_cons ?_ (stepsFrom_cons ?_ (stepsFrom_cons ?_ (stepsFrom_cons ?_ (stepsFrom_cons ?_ (stepsFrom_cons ?_ (stepsFrom_cons ?_ (stepsFrom_cons ?_ (stepsFrom_cons ?_ (stepsFrom_cons ?_ (stepsFrom_cons ?_ (stepsFrom_cons ?_ (stepsFrom_cons ?_ trivial)))))))))))))))))))))
      · exact step_call rfl trivial 11 _ _ [] rfl (by kernel_rfl) (enters_of Try.func11 (by kernel_rfl) rfl) (fun w hw => (alive_any  w).mono (by rintro e w' ⟨rfl, hb⟩; exact ⟨rfl, hw.carry hb⟩))
      · exact step_move rfl trivial _ rfl (by kernel_rfl)
      · exact step_load rfl (by exact ⟨_, rfl, by kernel_rfl⟩) _ _ _ rfl rfl (fun w hw => whole4 w _ N0 hw.a)
      · exact step_load rfl (by exact ⟨_, rfl, by kernel_rfl⟩) _ _ _ rfl rfl (fun w hw => whole4 w _ N1 hw.b)
      · exact step_call rfl (by exact ⟨_, rfl, by kernel_rfl⟩) 10 _ _ [(sv N0), (sv N1)] rfl (by kernel_rfl) (enters_of Try.func10 (by kernel_rfl) rfl) (fun w hw => (less_any N0 N1 w).mono (by rintro e w' ⟨rfl, hb⟩; exact ⟨rfl, hw.carry hb⟩))
      · exact step_load rfl (by exact ⟨_, rfl, by kernel_rfl⟩) _ _ _ rfl rfl (fun w hw => whole4 w _ (cln (N0 &&& N1)) (hw.m rfl).2)
      · exact step_call rfl (by exact ⟨_, rfl, by kernel_rfl⟩) 7 _ _ [(sv (cln (dif N0 N1))), (sv (cln (N0 &&& N1)))] rfl (by kernel_rfl) (enters_of Try.func7 (by kernel_rfl) rfl) (fun w hw => (union_any (cln (dif N0 N1)) (cln (N0 &&& N1)) w).mono (by rintro e w' ⟨rfl, hb⟩; exact ⟨rfl, hw.carry hb⟩))
      · exact step_load rfl (by exact ⟨_, rfl, by kernel_rfl⟩) _ _ _ rfl rfl (fun w hw => whole4 w _ N0 hw.a)
      · exact step_call rfl (by exact ⟨_, rfl, by kernel_rfl⟩) 12 _ _ [(sv N0)] rfl (by kernel_rfl) (enters_of Try.func12 (by kernel_rfl) rfl) (fun w hw => (clean_any N0 w).mono (by rintro e w' ⟨rfl, hb⟩; exact ⟨rfl, hw.carry hb⟩))
      · exact step_binOp rfl (by exact ⟨_, rfl, by kernel_rfl⟩) _ _ _ _ _ _ _ rfl rfl rfl (fun w hw => eqls (alg8 N0 N1) (cln_lt' _) w)
      · exact step_pick rfl trivial _ _ _ true rfl (by kernel_rfl) (by kernel_rfl)
      · exact step_move rfl trivial _ rfl (by kernel_rfl)
      · exact step_load rfl (by exact ⟨_, rfl, by kernel_rfl⟩) _ _ _ rfl rfl (fun w hw => whole4 w _ N0 hw.a)
      · exact step_load rfl (by exact ⟨_, rfl, by kernel_rfl⟩) _ _ _ rfl rfl (fun w hw => whole4 w _ N1 hw.b)
      · exact step_call rfl (by exact ⟨_, rfl, by kernel_rfl⟩) 10 _ _ [(sv N0), (sv N1)] rfl (by kernel_rfl) (enters_of Try.func10 (by kernel_rfl) rfl) (fun w hw => (less_any N0 N1 w).mono (by rintro e w' ⟨rfl, hb⟩; exact ⟨rfl, hw.carry hb⟩))
      · exact step_load rfl (by exact ⟨_, rfl, by kernel_rfl⟩) _ _ _ rfl rfl (fun w hw => whole4 w _ N1 hw.b)
      · exact step_call rfl (by exact ⟨_, rfl, by kernel_rfl⟩) 8 _ _ [(sv (cln (dif N0 N1))), (sv N1)] rfl (by kernel_rfl) (enters_of Try.func8 (by kernel_rfl) rfl) (fun w hw => (meet_any (cln (dif N0 N1)) N1 w).mono (by rintro e w' ⟨rfl, hb⟩; exact ⟨rfl, hw.carry hb⟩))
      · exact step_call rfl (by exact ⟨_, rfl, by kernel_rfl⟩) 9 _ _ [(sv (cln ((cln (dif N0 N1)) &&& N1)))] rfl (by kernel_rfl) (enters_of Try.func9 (by kernel_rfl) rfl) (fun w hw => (count_any (cln ((cln (dif N0 N1)) &&& N1)) w).mono (by rintro e w' ⟨rfl, hb⟩; exact ⟨rfl, hw.carry hb⟩))
      · exact step_binOp rfl (by exact ⟨_, rfl, by kernel_rfl⟩) _ _ _ _ _ _ _ rfl rfl rfl (fun w hw => (bin_eql .i64 _ _).trans (by rw [alg9]; rfl))
      · exact step_pick rfl trivial _ _ _ true rfl (by kernel_rfl) (by kernel_rfl)
      · exact step_assign rfl trivial _ rfl (by kernel_rfl) (fun _ h => h)
    intro W hW
    refine hK _ _ ?_
    simp only [finL, List.getD_cons_zero, List.getD_cons_succ, Nat.zero_add, Nat.reduceAdd, List.setIfInBounds_toArray, List.set_cons_zero, List.set_cons_succ]
    go_wp2
    go_ret
    exact ⟨rfl, hW.below⟩

set_option maxRecDepth 100000 in
theorem lifted (os : Os) (started : os.Started) (H : Type) (enc : TypeId × Value → H) :
    ReturnsInHanded {} Try.checked os 3 .any (Rows.setAlgebraSpec.pre6 enc Try.prog Try.f3 Rows.setAlgebraRow.domain false) (Rows.setAlgebraSpec.post enc Try.prog Try.f3 false true false false) := by
  refine returnsInHanded_of_change (C := Try.checked) own started (by kernel_rfl) Try.func3
    (ChangeSpec.witness6 (enc := enc) (C := Try.checked) false ⟨#[], #[.agg #[.int .u32 0, .int .u32 0, .int .u32 0, .int .u32 0], .agg #[.int .u32 0, .int .u32 0, .int .u32 0, .int .u32 0], .agg #[.int .u32 0, .int .u32 0, .int .u32 0, .int .u32 0]], []⟩ 8 (by kernel_rfl) (by kernel_rfl) (by kernel_rfl) (by kernel_rfl)) ?_
  intro W base args ds gs before hval0 hW hcnd _
  have hval : ∀ (j : Nat) t v, Try.f3.params[j]? = some t → args[j]? = some v → Value.okWide Try.prog W .any base t v := hval0
  have hW' := hW
  obtain ⟨p, q, hA0, hV, rfl, hfz, hnd⟩ := hW
  have hA : DataW.TrodAll enc Try.prog W 0 (fun _ => true) true Try.f3.params.toList args.toList ds p := hA0
  rw [Try.params3] at hA hval
  obtain ⟨v0, vs0, d0, ds0, p0, q0, hargs, rfl, rfl, h0, r0⟩ := trodAll_cons hA
  obtain ⟨v1, vs1, d1, ds1, p1, q1, rfl, rfl, rfl, h1, r1⟩ := trodAll_cons r0
  obtain ⟨v2, vs2, d2, ds2, p2, q2, rfl, rfl, rfl, h2, r2⟩ := trodAll_cons r1
  obtain ⟨rfl, rfl, rfl⟩ := trodAll_nil r2
  obtain rfl : args = #[v0, v1, v2] := by cases args; simp_all
  obtain ⟨rfl, rfl⟩ := trodVars_none hV
  obtain ⟨N0, hN0, rfl, rfl, rfl⟩ := open_set (hval 0 24 v0 rfl rfl) h0
  obtain ⟨N1, hN1, rfl, rfl, rfl⟩ := open_set (hval 1 24 v1 rfl rfl) h1
  obtain ⟨N2, hN2, rfl, rfl, rfl⟩ := open_set (hval 2 24 v2 rfl rfl) h2
  clear hA0 hval0
  simp only [List.append_nil] at hW'
  refine (walk N0 hN0 N1 hN1 N2 hN2 W).mono fun e W' ⟨he, hg⟩ => ?_
  subst he
  exact ⟨_, rfl, _, _, _, [], _, [], hW', (trodAll_cons_mk (shut_bool Try.underlying4 _) trodAll_mk0), (trodAll_cons_mk (shut_set N0) (trodAll_cons_mk (shut_set N1) (trodAll_cons_mk (shut_set N2) trodAll_mk0))), rfl, hg.frame _, fun h => by cases h⟩

theorem over : Rows.setAlgebraRow.holds Try.pinned (OpenSpec.ofChange Rows.setAlgebraSpec) :=
  OpenClaim.holds_of_wide 3 Try.f3 rfl rfl rfl rfl rfl rfl rfl ⟨rfl, rfl, rfl, rfl, rfl⟩ rfl rfl rfl rfl rfl (by kernel_rfl) Try.func3 (by kernel_rfl)
    (of_decide_eq_true (by kernel_rfl)) (by unfold Func.isWrapper; first | (rw [if_pos (by decide +kernel)]; kernel_rfl) | (rw [if_neg (by decide +kernel)]; exact ⟨rfl, rfl⟩))
    (fun os started H enc _ => lifted os started H enc)

theorem proved : Rows.SetAlgebraSaid :=
  over
#print axioms proved
end Go.Proofs.Ytahlehgibcdfeaa
