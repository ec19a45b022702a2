/- SetOrder: for all three sets, Order is an order of all sets, and a part comes ahead of the whole; no condition. -/
import Derived.Test.YtahlehgibcdfeaaRows
import Derived.WalkKit
import Derived.ProofKit
import Derived.OpenShut
import Derived.Test.YtahlehgibcdfeaaSla
namespace Go.Proofs.Ytahlehgibcdfeaa
open Go.ChangeShapes Go.WideShapes Go.ChangeAt Go.RowKit
set_option linter.unusedVariables false

theorem own : ownKnob Try.prog.godebug = none := by kernel_rfl
structure JO (w : World) (A B C : Nat) (W : World) : Prop where
  a : Holds4 W w.heap.size (wd A)
  b : Holds4 W (w.heap.size + 1) (wd B)
  c : Holds4 W (w.heap.size + 2) (wd C)
  below : Below w.heap.size w W
theorem JO.carry {w : World} {A B C : Nat} {W W' : World} (h : JO w A B C W) (hb : Below W.heap.size W W') : JO w A B C W' :=
  ⟨h.a.carry hb, h.b.carry hb, h.c.carry hb, bcarry h.below (Nat.le_refl _) hb⟩
theorem cmp_neg (a b : Nat) : -cmpN b a = cmpN a b := by unfold cmpN; repeat' split; all_goals omega
theorem cmp_zero (a b : Nat) : (cmpN a b == 0) = decide (a = b) := by
  unfold cmpN
  by_cases h : a < b
  · have : ¬ a = b := by omega
    simp [h, this]
  · by_cases h2 : b < a
    · have : ¬ a = b := by omega
      simp [h, h2, this]
    · have : a = b := by omega
      simp [this]
theorem cmp_bd (a b : Nat) : -1 ≤ cmpN a b ∧ cmpN a b ≤ 1 := by unfold cmpN; repeat' split; all_goals omega
theorem cmp_tr (a b c : Nat) : ¬ (cmpN a b ≥ 0 ∧ cmpN b c ≥ 0 ∧ cmpN a c < 0) ∧ ¬ (cmpN a b > 0 ∧ cmpN b c ≥ 0 ∧ cmpN a c ≤ 0) := by unfold cmpN; repeat' split; all_goals omega
theorem sub_iff (A B : Nat) : decide (cln (dif A B) = 0) = decide (cln (A ||| B) = cln B) := by
  rw [decide_eq_decide]
  constructor
  · intro h
    refine cln_ext (fun i hi => ?_)
    have := congrArg (fun n => n.testBit i) h
    simp only [testBit_cln, testBit_dif, hi, decide_true, Bool.true_and, Nat.zero_testBit] at this
    rw [Nat.testBit_or]
    cases hA : A.testBit i <;> cases hB : B.testBit i <;> simp_all
  · intro h
    apply Nat.eq_of_testBit_eq; intro i
    have := congrArg (fun n => n.testBit i) h
    simp only [testBit_cln, Nat.testBit_or] at this
    rw [testBit_cln, testBit_dif, Nat.zero_testBit]
    by_cases hi : i < 100
    · simp only [hi, decide_true, Bool.true_and] at this ⊢
      cases hA : A.testBit i <;> cases hB : B.testBit i <;> simp_all
    · simp [hi]
theorem sub_le (A B : Nat) (h : cln (dif A B) = 0) : cmpN (cln A) (cln B) ≤ 0 := by
  have h2 : cln A &&& cln B = cln A := by
    apply Nat.eq_of_testBit_eq; intro i
    have := congrArg (fun n => n.testBit i) h
    simp only [testBit_cln, testBit_dif, Nat.zero_testBit] at this
    rw [Nat.testBit_and, testBit_cln, testBit_cln]
    by_cases hi : i < 100
    · simp only [hi, decide_true, Bool.true_and] at this ⊢
      cases hA : A.testBit i <;> cases hB : B.testBit i <;> simp_all
    · simp [hi]
  have h3 : cln A ≤ cln B := by rw [← h2]; exact Nat.and_le_right
  unfold cmpN
  repeat' split
  all_goals omega
theorem un_neg {P : Program} (a c : Int) (h : IntKind.i64.wrap (-a) = c) (w : World) : (Op.unary .neg (.int .i64 a)).run P w = .ok (.int .i64 c) w := by
  subst h; simp [Op.unary, Op.intArith]
theorem un_not {P : Program} (a : Bool) (w : World) : (Op.unary .not (.bool a)).run P w = .ok (.bool (!a)) w := by
  simp [Op.unary]
theorem bin_neqb {x y : Operand} (a b : Bool) (w : World) : binRun Try.prog .neq 4 x y (.bool a) (.bool b) w = .ok (.bool (a != b)) w := by
  unfold binRun
  go_simp
  cases a <;> cases b <;> rfl
theorem bin_eqlb {x y : Operand} (a b : Bool) (w : World) : binRun Try.prog .eql 4 x y (.bool a) (.bool b) w = .ok (.bool (a == b)) w := by
  unfold binRun
  go_simp
set_option maxHeartbeats 4000000 in
set_option maxRecDepth 100000 in
theorem walk (N0 : Nat) (hN0 : N0 < S128) (N1 : Nat) (hN1 : N1 < S128) (N2 : Nat) (hN2 : N2 < S128) (w : World) :
    Calls Try.prog 4 #[sv N0, sv N1, sv N2] w fun e w' => e = .returned (.bool true) ∧ Below w.heap.size w w' := by
  have hmx : Try.prog.follows .mixedOrders = true := by kernel_rfl
  have b1 := cmp_bd (cln N0) (cln N1)
  have b2 := cmp_bd (cln N1) (cln N2)
  have b3 := cmp_bd (cln N0) (cln N2)
  have b4 := cmp_bd (cln N1) (cln N0)
  have hneg := cmp_neg (cln N0) (cln N1)
  have htr := cmp_tr (cln N0) (cln N1) (cln N2)
  have hz := cmp_zero (cln N0) (cln N1)
  have hle := sub_le N0 N1
  go_enter Try.func4, Try.ntmps4
  simp only [sv]
  go_wp2
  rename_i Q0 K0 hK
  refine wp_region_any hmx ?_
  refine wpAny_pure (fun i__ => ([(sv N0), (sv N1), (.int .i64 (cmpN (cln N0) (cln N1))), (sv N1), (sv N2), (.int .i64 (cmpN (cln N1) (cln N2))), (sv N0), (sv N2), (.int .i64 (cmpN (cln N0) (cln N2))), (.int .i64 (cmpN (cln N0) (cln N1))), (.int .i64 (cmpN (cln N1) (cln N2))), (.int .i64 (cmpN (cln N0) (cln N2)))] : List Value).getD i__ undef) (fun W => JO w N0 N1 N2 W) (by kernel_rfl) ⟨get_old (get_old (get_new (by simp))), get_old (get_new (by simp)), get_new (by simp), ((((Below.refl _ w).alloc (by simp) _).alloc (by simp) _).alloc (by simp; omega) _).drew⟩ ?_ ?_
  · refine (stepsFrom_cons ?_ (stepsFrom_cons ?_ (stepsFrom_cons ?_ (stepsFrom_cons ?_ (stepsFrom_cons ?_ (stepsFrom_cons ?_ (stepsFrom_cons ?_ (stepsFrom_cons ?_ (stepsFrom_cons ?_ (stepsFrom_cons ?_ (stepsFrom_cons ?_ (stepsFrom_cons ?_ trivial))))))))))))
    · exact step_load rfl trivial _ _ _ rfl rfl (fun w hw => whole4 w _ N0 hw.a)
    · exact step_load rfl trivial _ _ _ rfl rfl (fun w hw => whole4 w _ N1 hw.b)
    · exact step_call rfl trivial 13 _ _ [(sv N0), (sv N1)] rfl (by kernel_rfl) (enters_of Try.func13 (by kernel_rfl) rfl) (fun w hw => (order_any N0 N1 w).mono (by rintro e w' ⟨rfl, hb⟩; exact ⟨rfl, hw.carry hb⟩))
    · exact step_load rfl trivial _ _ _ rfl rfl (fun w hw => whole4 w _ N1 hw.b)
    · exact step_load rfl trivial _ _ _ rfl rfl (fun w hw => whole4 w _ N2 hw.c)
    · exact step_call rfl trivial 13 _ _ [(sv N1), (sv N2)] rfl (by kernel_rfl) (enters_of Try.func13 (by kernel_rfl) rfl) (fun w hw => (order_any N1 N2 w).mono (by rintro e w' ⟨rfl, hb⟩; exact ⟨rfl, hw.carry hb⟩))
    · exact step_load rfl trivial _ _ _ rfl rfl (fun w hw => whole4 w _ N0 hw.a)
    · exact step_load rfl trivial _ _ _ rfl rfl (fun w hw => whole4 w _ N2 hw.c)
    · exact step_call rfl trivial 13 _ _ [(sv N0), (sv N2)] rfl (by kernel_rfl) (enters_of Try.func13 (by kernel_rfl) rfl) (fun w hw => (order_any N0 N2 w).mono (by rintro e w' ⟨rfl, hb⟩; exact ⟨rfl, hw.carry hb⟩))
    · exact step_assign rfl trivial _ rfl (by kernel_rfl) (fun _ h => h)
    · exact step_assign rfl trivial _ rfl (by kernel_rfl) (fun _ h => h)
    · exact step_assign rfl trivial _ rfl (by kernel_rfl) (fun _ h => h)
  intro W hW
  first | refine hK _ _ ?_ | refine (‹∀ (a : Act) (w : World), Code.wp Try.prog _ _ a w → _›) _ _ ?_
  simp only [finL, List.getD_cons_zero, List.getD_cons_succ, Nat.zero_add, Nat.reduceAdd, List.setIfInBounds_toArray, List.set_cons_zero, List.set_cons_succ]
  clear hK
  go_wp2
  rename_i K1 hK
  refine wp_region_any hmx ?_
  refine wpAny_pure (fun i__ => ([(.int .i64 (cmpN (cln N0) (cln N1))), (sv N1), (sv N0), (.int .i64 (cmpN (cln N1) (cln N0))), (.int .i64 (cmpN (cln N0) (cln N1))), (.bool false), (.bool false), (.int .i64 (cmpN (cln N0) (cln N1))), (.bool (decide (cln N0 = cln N1))), (sv N0), (sv (cln N0)), (sv N1), (sv (cln N1)), (.bool (decide (cln N0 = cln N1))), (.bool false), (.bool false)] : List Value).getD i__ undef) (fun W => JO w N0 N1 N2 W) (by kernel_rfl) (hW.carry (Below.refl _ _).drew) ?_ ?_
  · refine (stepsFrom_cons ?_ (stepsFrom_cons ?_ (stepsFrom_cons ?_ (stepsFrom_cons ?_ (stepsFrom_cons ?_ (stepsFrom_cons ?_ (stepsFrom_cons ?_ (stepsFrom_cons ?_ (stepsFrom_cons ?_ (stepsFrom_cons ?_ (stepsFrom_cons ?_ (stepsFrom_cons ?_ (stepsFrom_cons ?_ (stepsFrom_cons ?_ (stepsFrom_cons ?_ (stepsFrom_cons ?_ trivial))))))))))))))))
    · exact step_move rfl trivial _ rfl (by kernel_rfl)
    · exact step_load rfl trivial _ _ _ rfl rfl (fun w hw => whole4 w _ N1 hw.b)
    · exact step_load rfl trivial _ _ _ rfl rfl (fun w hw => whole4 w _ N0 hw.a)
    · exact step_call rfl trivial 13 _ _ [(sv N1), (sv N0)] rfl (by kernel_rfl) (enters_of Try.func13 (by kernel_rfl) rfl) (fun w hw => (order_any N1 N0 w).mono (by rintro e w' ⟨rfl, hb⟩; exact ⟨rfl, hw.carry hb⟩))
    · exact step_unOp rfl trivial _ _ _ _ rfl rfl (fun w hw => un_neg _ _ (by rw [IntKind.wrap_i64]; omega) w)
    · exact step_binOp rfl trivial _ _ _ _ _ _ _ rfl rfl rfl (fun w hw => (bin_neq .i64 _ _).trans (by simp))
    · exact step_move rfl trivial _ rfl (by kernel_rfl)
    · exact step_move rfl (by exact ⟨_, rfl, by kernel_rfl⟩) _ rfl (by kernel_rfl)
    · exact step_binOp rfl (by exact ⟨_, rfl, by kernel_rfl⟩) _ _ _ _ _ _ _ rfl rfl rfl (fun w hw => (bin_eql .i64 _ _).trans (by rw [hz]; rfl))
    · exact step_load rfl (by exact ⟨_, rfl, by kernel_rfl⟩) _ _ _ rfl rfl (fun w hw => whole4 w _ N0 hw.a)
    · exact step_call rfl (by exact ⟨_, rfl, by kernel_rfl⟩) 12 _ _ [(sv N0)] rfl (by kernel_rfl) (enters_of Try.func12 (by kernel_rfl) rfl) (fun w hw => (clean_any N0 w).mono (by rintro e w' ⟨rfl, hb⟩; exact ⟨rfl, hw.carry hb⟩))
    · exact step_load rfl (by exact ⟨_, rfl, by kernel_rfl⟩) _ _ _ rfl rfl (fun w hw => whole4 w _ N1 hw.b)
    · exact step_call rfl (by exact ⟨_, rfl, by kernel_rfl⟩) 12 _ _ [(sv N1)] rfl (by kernel_rfl) (enters_of Try.func12 (by kernel_rfl) rfl) (fun w hw => (clean_any N1 w).mono (by rintro e w' ⟨rfl, hb⟩; exact ⟨rfl, hw.carry hb⟩))
    · exact step_binOp rfl (by exact ⟨_, rfl, by kernel_rfl⟩) _ _ _ _ _ _ _ rfl rfl rfl (fun w hw => eql4 _ _ _ _ (cln_lt' _) (cln_lt' _) w)
    · exact step_binOp rfl (by exact ⟨_, rfl, by kernel_rfl⟩) _ _ _ _ _ _ _ rfl rfl rfl (fun w hw => (bin_neqb _ _ w).trans (by simp))
    · exact step_pick rfl trivial _ _ _ false rfl (by kernel_rfl) (by kernel_rfl)
  intro W hW
  first | refine hK _ _ ?_ | refine (‹∀ (a : Act) (w : World), Code.wp Try.prog _ _ a w → _›) _ _ ?_
  simp only [finL, List.getD_cons_zero, List.getD_cons_succ, Nat.zero_add, Nat.reduceAdd, List.setIfInBounds_toArray, List.set_cons_zero, List.set_cons_succ]
  clear hK hz hneg b4
  generalize hx : cmpN (cln N0) (cln N1) = x at *
  generalize hy : cmpN (cln N1) (cln N2) = y at *
  generalize hzz : cmpN (cln N0) (cln N2) = z at *
  cases hs : decide (cln (dif N0 N1) = 0)
  · clear hle
    go_wp2
    all_goals
      refine wp_region_any hmx ?_
      refine wpAny_pure (fun i__ => ([(.bool true), (.bool true), (sv N0), (sv N1), (.bool false), (.bool true), (.bool true), undef, undef, (.bool true), (.bool true), (.bool true), (sv N0), (sv N1), (.bool false), (sv N0), (sv N1), (sv (cln (N0 ||| N1))), (sv N1), (sv (cln N1)), (.bool false), (.bool true), (.bool true), (.bool true)] : List Value).getD i__ undef) (fun W => JO w N0 N1 N2 W) (by kernel_rfl) (hW.carry (Below.refl _ _).drew) ?_ ?_
      · refine (stepsFrom_cons ?_ (stepsFrom_cons ?_ (stepsFrom_cons ?_ (stepsFrom_cons ?_ (stepsFrom_cons ?_ (stepsFrom_cons ?_ (stepsFrom_cons ?_ (stepsFrom_cons ?_ (stepsFrom_cons ?_ (stepsFrom_cons ?_ (stepsFrom_cons ?_ (stepsFrom_cons ?_ (stepsFrom_cons ?_ (stepsFrom_cons ?_ (stepsFrom_cons ?_ (stepsFrom_cons ?_ (stepsFrom_cons ?_ (stepsFrom_cons ?_ (stepsFrom_cons ?_ (stepsFrom_cons ?_ (stepsFrom_cons ?_ (stepsFrom_cons ?_ (stepsFrom_cons ?_ (stepsFrom_cons ?_ trivial))))))))))))))))))))))))
        · exact step_call rfl trivial 11 _ _ [] rfl (by kernel_rfl) (enters_of Try.func11 (by kernel_rfl) rfl) (fun w hw => (alive_any  w).mono (by rintro e w' ⟨rfl, hb⟩; exact ⟨rfl, hw.carry hb⟩))
        · exact step_move rfl trivial _ rfl (by kernel_rfl)
        · exact step_load rfl (by exact ⟨_, rfl, by kernel_rfl⟩) _ _ _ rfl rfl (fun w hw => whole4 w _ N0 hw.a)
        · exact step_load rfl (by exact ⟨_, rfl, by kernel_rfl⟩) _ _ _ rfl rfl (fun w hw => whole4 w _ N1 hw.b)
        · exact step_call rfl (by exact ⟨_, rfl, by kernel_rfl⟩) 14 _ _ [(sv N0), (sv N1)] rfl (by kernel_rfl) (enters_of Try.func14 (by kernel_rfl) rfl) (fun w hw => (subset_any N0 N1 w).mono (by rintro e w' ⟨rfl, hb⟩; exact ⟨by rw [hs]; rfl, hw.carry hb⟩))
        · exact step_unOp rfl (by exact ⟨_, rfl, by kernel_rfl⟩) _ _ _ _ rfl rfl (fun w hw => un_not false w)
        · exact step_move rfl (by exact ⟨_, rfl, by kernel_rfl⟩) _ rfl (by kernel_rfl)
        · exact step_skip rfl 6 false 63 (.bool true) rfl rfl (by kernel_rfl) (by intro h; cases h) rfl
        · exact step_skip rfl 6 false 63 (.bool true) rfl rfl (by kernel_rfl) (by intro h; cases h) rfl
        · exact step_pick rfl (by exact ⟨_, rfl, by kernel_rfl⟩) _ _ _ true rfl (by kernel_rfl) (by kernel_rfl)
        · exact step_pick rfl trivial _ _ _ true rfl (by kernel_rfl) (by kernel_rfl)
        · exact step_move rfl trivial _ rfl (by kernel_rfl)
        · exact step_load rfl (by exact ⟨_, rfl, by kernel_rfl⟩) _ _ _ rfl rfl (fun w hw => whole4 w _ N0 hw.a)
        · exact step_load rfl (by exact ⟨_, rfl, by kernel_rfl⟩) _ _ _ rfl rfl (fun w hw => whole4 w _ N1 hw.b)
        · exact step_call rfl (by exact ⟨_, rfl, by kernel_rfl⟩) 14 _ _ [(sv N0), (sv N1)] rfl (by kernel_rfl) (enters_of Try.func14 (by kernel_rfl) rfl) (fun w hw => (subset_any N0 N1 w).mono (by rintro e w' ⟨rfl, hb⟩; exact ⟨by rw [hs]; rfl, hw.carry hb⟩))
        · exact step_load rfl (by exact ⟨_, rfl, by kernel_rfl⟩) _ _ _ rfl rfl (fun w hw => whole4 w _ N0 hw.a)
        · exact step_load rfl (by exact ⟨_, rfl, by kernel_rfl⟩) _ _ _ rfl rfl (fun w hw => whole4 w _ N1 hw.b)
        · exact step_call rfl (by exact ⟨_, rfl, by kernel_rfl⟩) 7 _ _ [(sv N0), (sv N1)] rfl (by kernel_rfl) (enters_of Try.func7 (by kernel_rfl) rfl) (fun w hw => (union_any N0 N1 w).mono (by rintro e w' ⟨rfl, hb⟩; exact ⟨rfl, hw.carry hb⟩))
        · exact step_load rfl (by exact ⟨_, rfl, by kernel_rfl⟩) _ _ _ rfl rfl (fun w hw => whole4 w _ N1 hw.b)
        · exact step_call rfl (by exact ⟨_, rfl, by kernel_rfl⟩) 12 _ _ [(sv N1)] rfl (by kernel_rfl) (enters_of Try.func12 (by kernel_rfl) rfl) (fun w hw => (clean_any N1 w).mono (by rintro e w' ⟨rfl, hb⟩; exact ⟨rfl, hw.carry hb⟩))
        · exact step_binOp rfl (by exact ⟨_, rfl, by kernel_rfl⟩) _ _ _ _ _ _ _ rfl rfl rfl (fun w hw => (eql4 _ _ _ _ (cln_lt' _) (cln_lt' _) w).trans (by rw [← sub_iff, hs]; rfl))
        · exact step_binOp rfl (by exact ⟨_, rfl, by kernel_rfl⟩) _ _ _ _ _ _ _ rfl rfl rfl (fun w hw => bin_eqlb false false w)
        · exact step_pick rfl trivial _ _ _ true rfl (by kernel_rfl) (by kernel_rfl)
        · exact step_assign rfl trivial _ rfl (by kernel_rfl) (fun _ h => h)
      intro W hW
      first | refine hK _ _ ?_ | refine (‹∀ (a : Act) (w : World), Code.wp Try.prog _ _ a w → _›) _ _ ?_
      simp only [finL, List.getD_cons_zero, List.getD_cons_succ, Nat.zero_add, Nat.reduceAdd, List.setIfInBounds_toArray, List.set_cons_zero, List.set_cons_succ]
      go_wp2
      go_ret
      exact ⟨rfl, hW.below⟩
  · have hle0 : x ≤ 0 := hle (of_decide_eq_true hs)
    clear hle
    go_wp2
    all_goals
      refine wp_region_any hmx ?_
      refine wpAny_pure (fun i__ => ([(.bool true), (.bool true), (sv N0), (sv N1), (.bool true), (.bool false), (.bool false), (.int .i64 x), (.bool true), (.bool true), (.bool true), (.bool true), (sv N0), (sv N1), (.bool true), (sv N0), (sv N1), (sv (cln (N0 ||| N1))), (sv N1), (sv (cln N1)), (.bool true), (.bool true), (.bool true), (.bool true)] : List Value).getD i__ undef) (fun W => JO w N0 N1 N2 W) (by kernel_rfl) (hW.carry (Below.refl _ _).drew) ?_ ?_
      · refine (stepsFrom_cons ?_ (stepsFrom_cons ?_ (stepsFrom_cons ?_ (stepsFrom_cons ?_ (stepsFrom_cons ?_ (stepsFrom_cons ?_ (stepsFrom_cons ?_ (stepsFrom_cons ?_ (stepsFrom_cons ?_ (stepsFrom_cons ?_ (stepsFrom_cons ?_ (stepsFrom_cons ?_ (stepsFrom_cons ?_ (stepsFrom_cons ?_ (stepsFrom_cons ?_ (stepsFrom_cons ?_ (stepsFrom_cons ?_ (stepsFrom_cons ?_ (stepsFrom_cons ?_ (stepsFrom_cons ?_ (stepsFrom_cons ?_ (stepsFrom_cons ?_ (stepsFrom_cons ?_ (stepsFrom_cons ?_ trivial))))))))))))))))))))))))
        · exact step_call rfl trivial 11 _ _ [] rfl (by kernel_rfl) (enters_of Try.func11 (by kernel_rfl) rfl) (fun w hw => (alive_any  w).mono (by rintro e w' ⟨rfl, hb⟩; exact ⟨rfl, hw.carry hb⟩))
        · exact step_move rfl trivial _ rfl (by kernel_rfl)
        · exact step_load rfl (by exact ⟨_, rfl, by kernel_rfl⟩) _ _ _ rfl rfl (fun w hw => whole4 w _ N0 hw.a)
        · exact step_load rfl (by exact ⟨_, rfl, by kernel_rfl⟩) _ _ _ rfl rfl (fun w hw => whole4 w _ N1 hw.b)
        · exact step_call rfl (by exact ⟨_, rfl, by kernel_rfl⟩) 14 _ _ [(sv N0), (sv N1)] rfl (by kernel_rfl) (enters_of Try.func14 (by kernel_rfl) rfl) (fun w hw => (subset_any N0 N1 w).mono (by rintro e w' ⟨rfl, hb⟩; exact ⟨by rw [hs]; rfl, hw.carry hb⟩))
        · exact step_unOp rfl (by exact ⟨_, rfl, by kernel_rfl⟩) _ _ _ _ rfl rfl (fun w hw => un_not true w)
        · exact step_move rfl (by exact ⟨_, rfl, by kernel_rfl⟩) _ rfl (by kernel_rfl)
        · exact step_move rfl (by exact ⟨_, rfl, by kernel_rfl⟩) _ rfl (by kernel_rfl)
        · exact step_binOp rfl (by exact ⟨_, rfl, by kernel_rfl⟩) _ _ _ _ _ _ _ rfl rfl rfl (fun w hw => (bin_leq .i64 _ _).trans (by rw [decide_eq_true hle0]; rfl))
        · exact step_pick rfl (by exact ⟨_, rfl, by kernel_rfl⟩) _ _ _ false rfl (by kernel_rfl) (by kernel_rfl)
        · exact step_pick rfl trivial _ _ _ true rfl (by kernel_rfl) (by kernel_rfl)
        · exact step_move rfl trivial _ rfl (by kernel_rfl)
        · exact step_load rfl (by exact ⟨_, rfl, by kernel_rfl⟩) _ _ _ rfl rfl (fun w hw => whole4 w _ N0 hw.a)
        · exact step_load rfl (by exact ⟨_, rfl, by kernel_rfl⟩) _ _ _ rfl rfl (fun w hw => whole4 w _ N1 hw.b)
        · exact step_call rfl (by exact ⟨_, rfl, by kernel_rfl⟩) 14 _ _ [(sv N0), (sv N1)] rfl (by kernel_rfl) (enters_of Try.func14 (by kernel_rfl) rfl) (fun w hw => (subset_any N0 N1 w).mono (by rintro e w' ⟨rfl, hb⟩; exact ⟨by rw [hs]; rfl, hw.carry hb⟩))
        · exact step_load rfl (by exact ⟨_, rfl, by kernel_rfl⟩) _ _ _ rfl rfl (fun w hw => whole4 w _ N0 hw.a)
        · exact step_load rfl (by exact ⟨_, rfl, by kernel_rfl⟩) _ _ _ rfl rfl (fun w hw => whole4 w _ N1 hw.b)
        · exact step_call rfl (by exact ⟨_, rfl, by kernel_rfl⟩) 7 _ _ [(sv N0), (sv N1)] rfl (by kernel_rfl) (enters_of Try.func7 (by kernel_rfl) rfl) (fun w hw => (union_any N0 N1 w).mono (by rintro e w' ⟨rfl, hb⟩; exact ⟨rfl, hw.carry hb⟩))
        · exact step_load rfl (by exact ⟨_, rfl, by kernel_rfl⟩) _ _ _ rfl rfl (fun w hw => whole4 w _ N1 hw.b)
        · exact step_call rfl (by exact ⟨_, rfl, by kernel_rfl⟩) 12 _ _ [(sv N1)] rfl (by kernel_rfl) (enters_of Try.func12 (by kernel_rfl) rfl) (fun w hw => (clean_any N1 w).mono (by rintro e w' ⟨rfl, hb⟩; exact ⟨rfl, hw.carry hb⟩))
        · exact step_binOp rfl (by exact ⟨_, rfl, by kernel_rfl⟩) _ _ _ _ _ _ _ rfl rfl rfl (fun w hw => (eql4 _ _ _ _ (cln_lt' _) (cln_lt' _) w).trans (by rw [← sub_iff, hs]; rfl))
        · exact step_binOp rfl (by exact ⟨_, rfl, by kernel_rfl⟩) _ _ _ _ _ _ _ rfl rfl rfl (fun w hw => bin_eqlb true true w)
        · exact step_pick rfl trivial _ _ _ true rfl (by kernel_rfl) (by kernel_rfl)
        · exact step_assign rfl trivial _ rfl (by kernel_rfl) (fun _ h => h)
      intro W hW
      first | refine hK _ _ ?_ | refine (‹∀ (a : Act) (w : World), Code.wp Try.prog _ _ a w → _›) _ _ ?_
      simp only [finL, List.getD_cons_zero, List.getD_cons_succ, Nat.zero_add, Nat.reduceAdd, List.setIfInBounds_toArray, List.set_cons_zero, List.set_cons_succ]
      go_wp2
      go_ret
      exact ⟨rfl, hW.below⟩

set_option maxRecDepth 100000 in
theorem lifted (os : Os) (started : os.Started) (H : Type) (enc : TypeId × Value → H) :
    ReturnsInHanded {} Try.checked os 4 .any (Rows.setOrderSpec.pre6 enc Try.prog Try.f4 Rows.setOrderRow.domain false) (Rows.setOrderSpec.post enc Try.prog Try.f4 false true false false) := by
  refine returnsInHanded_of_change (C := Try.checked) own started (by kernel_rfl) Try.func4
    (ChangeSpec.witness6 (enc := enc) (C := Try.checked) false ⟨#[], #[.agg #[.int .u32 0, .int .u32 0, .int .u32 0, .int .u32 0], .agg #[.int .u32 0, .int .u32 0, .int .u32 0, .int .u32 0], .agg #[.int .u32 0, .int .u32 0, .int .u32 0, .int .u32 0]], []⟩ 8 (by kernel_rfl) (by kernel_rfl) (by kernel_rfl) (by kernel_rfl)) ?_
  intro W base args ds gs before hval0 hW hcnd _
  have hval : ∀ (j : Nat) t v, Try.f4.params[j]? = some t → args[j]? = some v → Value.okWide Try.prog W .any base t v := hval0
  have hW' := hW
  obtain ⟨p, q, hA0, hV, rfl, hfz, hnd⟩ := hW
  have hA : DataW.TrodAll enc Try.prog W 0 (fun _ => true) true Try.f4.params.toList args.toList ds p := hA0
  rw [Try.params4] at hA hval
  obtain ⟨v0, vs0, d0, ds0, p0, q0, hargs, rfl, rfl, h0, r0⟩ := trodAll_cons hA
  obtain ⟨v1, vs1, d1, ds1, p1, q1, rfl, rfl, rfl, h1, r1⟩ := trodAll_cons r0
  obtain ⟨v2, vs2, d2, ds2, p2, q2, rfl, rfl, rfl, h2, r2⟩ := trodAll_cons r1
  obtain ⟨rfl, rfl, rfl⟩ := trodAll_nil r2
  obtain rfl : args = #[v0, v1, v2] := by cases args; simp_all
  obtain ⟨rfl, rfl⟩ := trodVars_none hV
  obtain ⟨N0, hN0, rfl, rfl, rfl⟩ := open_set (hval 0 24 v0 rfl rfl) h0
  obtain ⟨N1, hN1, rfl, rfl, rfl⟩ := open_set (hval 1 24 v1 rfl rfl) h1
  obtain ⟨N2, hN2, rfl, rfl, rfl⟩ := open_set (hval 2 24 v2 rfl rfl) h2
  clear hA0 hval0
  simp only [List.append_nil] at hW'
  refine (walk N0 hN0 N1 hN1 N2 hN2 W).mono fun e W' ⟨he, hg⟩ => ?_
  subst he
  exact ⟨_, rfl, _, _, _, [], _, [], hW', (trodAll_cons_mk (shut_bool Try.underlying4 _) trodAll_mk0), (trodAll_cons_mk (shut_set N0) (trodAll_cons_mk (shut_set N1) (trodAll_cons_mk (shut_set N2) trodAll_mk0))), rfl, hg.frame _, fun h => by cases h⟩

theorem over : Rows.setOrderRow.holds Try.pinned (OpenSpec.ofChange Rows.setOrderSpec) :=
  OpenClaim.holds_of_wide 4 Try.f4 rfl rfl rfl rfl rfl rfl rfl ⟨rfl, rfl, rfl, rfl, rfl⟩ rfl rfl rfl rfl rfl (by kernel_rfl) Try.func4 (by kernel_rfl)
    (of_decide_eq_true (by kernel_rfl)) (by unfold Func.isWrapper; first | (rw [if_pos (by decide +kernel)]; kernel_rfl) | (rw [if_neg (by decide +kernel)]; exact ⟨rfl, rfl⟩))
    (fun os started H enc _ => lifted os started H enc)

theorem proved : Rows.SetOrderSaid :=
  over
#print axioms proved
end Go.Proofs.Ytahlehgibcdfeaa
