/- SetTwos: for all two sets Union, Meet, Less, Subset and Order answer as the document does; no condition. -/
import Derived.Test.YtahlehgibcdfeabRows
import Derived.WalkKit
import Derived.ProofKit
import Derived.OpenShut
import Derived.Test.YtahlehgibcdfeabRft
namespace Go.Proofs.Ytahlehgibcdfeab
open Go.ChangeShapes Go.WideShapes Go.ChangeAt Go.RowKit
set_option linter.unusedVariables false

theorem own : ownKnob Try.prog.godebug = none := by kernel_rfl
structure JT (w : World) (A B : Nat) (W : World) : Prop where
  a : Holds4 W w.heap.size (wd A)
  b : Holds4 W (w.heap.size + 1) (wd B)
  below : Below w.heap.size w W
theorem JT.carry {w : World} {A B : Nat} {W W' : World} (h : JT w A B W) (hb : Below W.heap.size W W') : JT w A B W' :=
  ⟨h.a.carry hb, h.b.carry hb, bcarry h.below (Nat.le_refl _) hb⟩
theorem bin_eqlb {x y : Operand} {w : World} (a b : Bool) : binRun Try.prog .eql 4 x y (.bool a) (.bool b) w = .ok (.bool (a == b)) w := by
  unfold binRun
  cases a <;> cases b <;> go_simp
set_option maxHeartbeats 4000000 in
set_option maxRecDepth 100000 in
theorem walk (N0 : Nat) (hN0 : N0 < S128) (N1 : Nat) (hN1 : N1 < S128) (w : World) :
    Calls Try.prog 3 #[sv N0, sv N1] w fun e w' => e = .returned (.bool true) ∧ Below w.heap.size w w' := by
  have hmx : Try.prog.follows .mixedOrders = true := by kernel_rfl
  go_enter Try.func3, Try.ntmps3
  simp only [sv]
  go_wp2
  rename_i Q0 K0 hK
  refine wp_region_any hmx ?_
  refine wpAny_pure (fun i__ => ([(sv N0), (sv N1), (sv (cln (N0 ||| N1))), (sv N0), (sv N1), (sv (cln (N0 ||| N1))), (.bool false), (.bool false), (sv N0), (sv N1), (sv (cln (N0 &&& N1))), (sv N0), (sv N1), (sv (cln (N0 &&& N1))), (.bool false), (.bool false), (.bool false), (sv N0), (sv N1), (sv (cln (dif N0 N1))), (sv N0), (sv N1), (sv (cln (dif N0 N1))), (.bool false), (.bool false)] : List Value).getD i__ undef) (fun W => JT w N0 N1 W) (by kernel_rfl) ⟨get_old (get_new (by simp)), get_new (by simp), (((Below.refl _ w).alloc (by simp) _).alloc (by simp) _).drew⟩ ?_ ?_
  · refine (stepsFrom_cons ?_ (stepsFrom_cons ?_ (stepsFrom_cons ?_ (stepsFrom_cons ?_ (stepsFrom_cons ?_ (stepsFrom_cons ?_ (stepsFrom_cons ?_ (stepsFrom_cons ?_ (stepsFrom_cons ?_ (stepsFrom_cons ?_ (stepsFrom_cons ?_ (stepsFrom_cons ?_ (stepsFrom_cons ?_ (stepsFrom_cons ?_ (stepsFrom_cons ?_ (stepsFrom_cons ?_ (stepsFrom_cons ?_ (stepsFrom_cons ?_ (stepsFrom_cons ?_ (stepsFrom_cons ?_ (stepsFrom_cons ?_ (stepsFrom_cons ?_ (stepsFrom_cons ?_ (stepsFrom_cons ?_ (stepsFrom_cons ?_ trivial)))))))))))))))))))))))))
    · exact step_load rfl trivial _ _ _ rfl rfl (fun w hw => whole4 w _ N0 hw.a)
    · exact step_load rfl trivial _ _ _ rfl rfl (fun w hw => whole4 w _ N1 hw.b)
    · exact step_call rfl trivial 4 _ _ [(sv N0), (sv N1)] rfl (by kernel_rfl) (enters_of Try.func4 (by kernel_rfl) rfl) (fun w hw => (union_any N0 N1 w).mono (by rintro e w' ⟨rfl, hb⟩; exact ⟨rfl, hw.carry hb⟩))
    · exact step_load rfl trivial _ _ _ rfl rfl (fun w hw => whole4 w _ N0 hw.a)
    · exact step_load rfl trivial _ _ _ rfl rfl (fun w hw => whole4 w _ N1 hw.b)
    · exact step_call rfl trivial 5 _ _ [(sv N0), (sv N1)] rfl (by kernel_rfl) (enters_of Try.func5 (by kernel_rfl) rfl) (fun w hw => (rUnion_any N0 N1 w).mono (by rintro e w' ⟨rfl, hb⟩; exact ⟨rfl, hw.carry hb⟩))
    · exact step_binOp rfl trivial _ _ _ _ _ _ _ rfl rfl rfl (fun w hw => neqs rfl (cln_lt' _) w)
    · exact step_move rfl trivial _ rfl (by kernel_rfl)
    · exact step_load rfl (by exact ⟨_, rfl, by kernel_rfl⟩) _ _ _ rfl rfl (fun w hw => whole4 w _ N0 hw.a)
    · exact step_load rfl (by exact ⟨_, rfl, by kernel_rfl⟩) _ _ _ rfl rfl (fun w hw => whole4 w _ N1 hw.b)
    · exact step_call rfl (by exact ⟨_, rfl, by kernel_rfl⟩) 6 _ _ [(sv N0), (sv N1)] rfl (by kernel_rfl) (enters_of Try.func6 (by kernel_rfl) rfl) (fun w hw => (meet_any N0 N1 w).mono (by rintro e w' ⟨rfl, hb⟩; exact ⟨rfl, hw.carry hb⟩))
    · exact step_load rfl (by exact ⟨_, rfl, by kernel_rfl⟩) _ _ _ rfl rfl (fun w hw => whole4 w _ N0 hw.a)
    · exact step_load rfl (by exact ⟨_, rfl, by kernel_rfl⟩) _ _ _ rfl rfl (fun w hw => whole4 w _ N1 hw.b)
    · exact step_call rfl (by exact ⟨_, rfl, by kernel_rfl⟩) 7 _ _ [(sv N0), (sv N1)] rfl (by kernel_rfl) (enters_of Try.func7 (by kernel_rfl) rfl) (fun w hw => (rMeet_any N0 N1 w).mono (by rintro e w' ⟨rfl, hb⟩; exact ⟨rfl, hw.carry hb⟩))
    · exact step_binOp rfl (by exact ⟨_, rfl, by kernel_rfl⟩) _ _ _ _ _ _ _ rfl rfl rfl (fun w hw => neqs rfl (cln_lt' _) w)
    · exact step_pick rfl trivial _ _ _ false rfl (by kernel_rfl) (by kernel_rfl)
    · exact step_move rfl trivial _ rfl (by kernel_rfl)
    · exact step_load rfl (by exact ⟨_, rfl, by kernel_rfl⟩) _ _ _ rfl rfl (fun w hw => whole4 w _ N0 hw.a)
    · exact step_load rfl (by exact ⟨_, rfl, by kernel_rfl⟩) _ _ _ rfl rfl (fun w hw => whole4 w _ N1 hw.b)
    · exact step_call rfl (by exact ⟨_, rfl, by kernel_rfl⟩) 8 _ _ [(sv N0), (sv N1)] rfl (by kernel_rfl) (enters_of Try.func8 (by kernel_rfl) rfl) (fun w hw => (less_any N0 N1 w).mono (by rintro e w' ⟨rfl, hb⟩; exact ⟨rfl, hw.carry hb⟩))
    · exact step_load rfl (by exact ⟨_, rfl, by kernel_rfl⟩) _ _ _ rfl rfl (fun w hw => whole4 w _ N0 hw.a)
    · exact step_load rfl (by exact ⟨_, rfl, by kernel_rfl⟩) _ _ _ rfl rfl (fun w hw => whole4 w _ N1 hw.b)
    · exact step_call rfl (by exact ⟨_, rfl, by kernel_rfl⟩) 9 _ _ [(sv N0), (sv N1)] rfl (by kernel_rfl) (enters_of Try.func9 (by kernel_rfl) rfl) (fun w hw => (rLess_any N0 N1 w).mono (by rintro e w' ⟨rfl, hb⟩; exact ⟨rfl, hw.carry hb⟩))
    · exact step_binOp rfl (by exact ⟨_, rfl, by kernel_rfl⟩) _ _ _ _ _ _ _ rfl rfl rfl (fun w hw => neqs rfl (cln_lt' _) w)
    · exact step_pick rfl trivial _ _ _ false rfl (by kernel_rfl) (by kernel_rfl)
  intro W hW
  first | refine hK _ _ ?_ | refine (‹∀ (a : Act) (w : World), Code.wp Try.prog _ _ a w → _›) _ _ ?_
  simp only [finL, List.getD_cons_zero, List.getD_cons_succ, Nat.zero_add, Nat.reduceAdd, List.setIfInBounds_toArray, List.set_cons_zero, List.set_cons_succ]
  clear hK
  go_wp2
  rename_i K1 hK
  refine wp_region_any hmx ?_
  refine wpAny_pure (fun i__ => ([(.bool true), (.bool true), (sv N0), (sv N1), (.bool (decide (cln (dif N0 N1) = 0))), (sv N0), (sv N1), (.bool (decide (cln (dif N0 N1) = 0))), (.bool true), (.bool true), (.bool true), (sv N0), (sv N1), (.int .i64 (cmpN (cln N0) (cln N1))), (sv N0), (sv N1), (.int .i64 (cmpN (cln N0) (cln N1))), (.bool true), (.bool true), (.bool true)] : List Value).getD i__ undef) (fun W => JT w N0 N1 W) (by kernel_rfl) (hW.carry (Below.refl _ _).drew) ?_ ?_
  · refine (stepsFrom_cons ?_ (stepsFrom_cons ?_ (stepsFrom_cons ?_ (stepsFrom_cons ?_ (stepsFrom_cons ?_ (stepsFrom_cons ?_ (stepsFrom_cons ?_ (stepsFrom_cons ?_ (stepsFrom_cons ?_ (stepsFrom_cons ?_ (stepsFrom_cons ?_ (stepsFrom_cons ?_ (stepsFrom_cons ?_ (stepsFrom_cons ?_ (stepsFrom_cons ?_ (stepsFrom_cons ?_ (stepsFrom_cons ?_ (stepsFrom_cons ?_ (stepsFrom_cons ?_ (stepsFrom_cons ?_ trivial))))))))))))))))))))
    · exact step_call rfl trivial 10 _ _ [] rfl (by kernel_rfl) (enters_of Try.func10 (by kernel_rfl) rfl) (fun w hw => (alive_any  w).mono (by rintro e w' ⟨rfl, hb⟩; exact ⟨rfl, hw.carry hb⟩))
    · exact step_move rfl trivial _ rfl (by kernel_rfl)
    · exact step_load rfl (by exact ⟨_, rfl, by kernel_rfl⟩) _ _ _ rfl rfl (fun w hw => whole4 w _ N0 hw.a)
    · exact step_load rfl (by exact ⟨_, rfl, by kernel_rfl⟩) _ _ _ rfl rfl (fun w hw => whole4 w _ N1 hw.b)
    · exact step_call rfl (by exact ⟨_, rfl, by kernel_rfl⟩) 11 _ _ [(sv N0), (sv N1)] rfl (by kernel_rfl) (enters_of Try.func11 (by kernel_rfl) rfl) (fun w hw => (subset_any N0 N1 w).mono (by rintro e w' ⟨rfl, hb⟩; exact ⟨rfl, hw.carry hb⟩))
    · exact step_load rfl (by exact ⟨_, rfl, by kernel_rfl⟩) _ _ _ rfl rfl (fun w hw => whole4 w _ N0 hw.a)
    · exact step_load rfl (by exact ⟨_, rfl, by kernel_rfl⟩) _ _ _ rfl rfl (fun w hw => whole4 w _ N1 hw.b)
    · exact step_call rfl (by exact ⟨_, rfl, by kernel_rfl⟩) 12 _ _ [(sv N0), (sv N1)] rfl (by kernel_rfl) (enters_of Try.func12 (by kernel_rfl) rfl) (fun w hw => (rSubset_any N0 N1 w).mono (by rintro e w' ⟨rfl, hb⟩; exact ⟨rfl, hw.carry hb⟩))
    · exact step_binOp rfl (by exact ⟨_, rfl, by kernel_rfl⟩) _ _ _ _ _ _ _ rfl rfl rfl (fun w hw => (bin_eqlb _ _).trans (by simp))
    · exact step_pick rfl trivial _ _ _ true rfl (by kernel_rfl) (by kernel_rfl)
    · exact step_move rfl trivial _ rfl (by kernel_rfl)
    · exact step_load rfl (by exact ⟨_, rfl, by kernel_rfl⟩) _ _ _ rfl rfl (fun w hw => whole4 w _ N0 hw.a)
    · exact step_load rfl (by exact ⟨_, rfl, by kernel_rfl⟩) _ _ _ rfl rfl (fun w hw => whole4 w _ N1 hw.b)
    · exact step_call rfl (by exact ⟨_, rfl, by kernel_rfl⟩) 13 _ _ [(sv N0), (sv N1)] rfl (by kernel_rfl) (enters_of Try.func13 (by kernel_rfl) rfl) (fun w hw => (order_any N0 N1 w).mono (by rintro e w' ⟨rfl, hb⟩; exact ⟨rfl, hw.carry hb⟩))
    · exact step_load rfl (by exact ⟨_, rfl, by kernel_rfl⟩) _ _ _ rfl rfl (fun w hw => whole4 w _ N0 hw.a)
    · exact step_load rfl (by exact ⟨_, rfl, by kernel_rfl⟩) _ _ _ rfl rfl (fun w hw => whole4 w _ N1 hw.b)
    · exact step_call rfl (by exact ⟨_, rfl, by kernel_rfl⟩) 14 _ _ [(sv N0), (sv N1)] rfl (by kernel_rfl) (enters_of Try.func14 (by kernel_rfl) rfl) (fun w hw => (rOrder_any N0 N1 w).mono (by rintro e w' ⟨rfl, hb⟩; exact ⟨rfl, hw.carry hb⟩))
    · exact step_binOp rfl (by exact ⟨_, rfl, by kernel_rfl⟩) _ _ _ _ _ _ _ rfl rfl rfl (fun w hw => (bin_eql .i64 _ _).trans (by simp))
    · exact step_pick rfl trivial _ _ _ true rfl (by kernel_rfl) (by kernel_rfl)
    · exact step_assign rfl trivial _ rfl (by kernel_rfl) (fun _ h => h)
  intro W hW
  first | refine hK _ _ ?_ | refine (‹∀ (a : Act) (w : World), Code.wp Try.prog _ _ a w → _›) _ _ ?_
  simp only [finL, List.getD_cons_zero, List.getD_cons_succ, Nat.zero_add, Nat.reduceAdd, List.setIfInBounds_toArray, List.set_cons_zero, List.set_cons_succ]
  go_wp2
  go_ret
  exact ⟨rfl, hW.below⟩

set_option maxRecDepth 100000 in
theorem lifted (os : Os) (started : os.Started) (H : Type) (enc : TypeId × Value → H) :
    ReturnsInHanded {} Try.checked os 3 .any (Rows.setTwosSpec.pre6 enc Try.prog Try.f3 Rows.setTwosRow.domain false) (Rows.setTwosSpec.post enc Try.prog Try.f3 false true false false) := by
  refine returnsInHanded_of_change (C := Try.checked) own started (by kernel_rfl) Try.func3
    (ChangeSpec.witness6 (enc := enc) (C := Try.checked) false ⟨#[], #[.agg #[.int .u32 0, .int .u32 0, .int .u32 0, .int .u32 0], .agg #[.int .u32 0, .int .u32 0, .int .u32 0, .int .u32 0]], []⟩ 8 (by kernel_rfl) (by kernel_rfl) (by kernel_rfl) (by kernel_rfl)) ?_
  intro W base args ds gs before hval0 hW hcnd _
  have hval : ∀ (j : Nat) t v, Try.f3.params[j]? = some t → args[j]? = some v → Value.okWide Try.prog W .any base t v := hval0
  have hW' := hW
  obtain ⟨p, q, hA0, hV, rfl, hfz, hnd⟩ := hW
  have hA : DataW.TrodAll enc Try.prog W 0 (fun _ => true) true Try.f3.params.toList args.toList ds p := hA0
  rw [Try.params3] at hA hval
  obtain ⟨v0, vs0, d0, ds0, p0, q0, hargs, rfl, rfl, h0, r0⟩ := trodAll_cons hA
  obtain ⟨v1, vs1, d1, ds1, p1, q1, rfl, rfl, rfl, h1, r1⟩ := trodAll_cons r0
  obtain ⟨rfl, rfl, rfl⟩ := trodAll_nil r1
  obtain rfl : args = #[v0, v1] := by cases args; simp_all
  obtain ⟨rfl, rfl⟩ := trodVars_none hV
  obtain ⟨N0, hN0, rfl, rfl, rfl⟩ := open_set (hval 0 24 v0 rfl rfl) h0
  obtain ⟨N1, hN1, rfl, rfl, rfl⟩ := open_set (hval 1 24 v1 rfl rfl) h1
  clear hA0 hval0
  simp only [List.append_nil] at hW'
  refine (walk N0 hN0 N1 hN1 W).mono fun e W' ⟨he, hg⟩ => ?_
  subst he
  exact ⟨_, rfl, _, _, _, [], _, [], hW', (trodAll_cons_mk (shut_bool Try.underlying4 _) trodAll_mk0), (trodAll_cons_mk (shut_set N0) (trodAll_cons_mk (shut_set N1) trodAll_mk0)), rfl, hg.frame _, fun h => by cases h⟩

theorem over : Rows.setTwosRow.holds Try.pinned (OpenSpec.ofChange Rows.setTwosSpec) :=
  OpenClaim.holds_of_wide 3 Try.f3 rfl rfl rfl rfl rfl rfl rfl ⟨rfl, rfl, rfl, rfl, rfl⟩ rfl rfl rfl rfl rfl (by kernel_rfl) Try.func3 (by kernel_rfl)
    (of_decide_eq_true (by kernel_rfl)) (by unfold Func.isWrapper; first | (rw [if_pos (by decide +kernel)]; kernel_rfl) | (rw [if_neg (by decide +kernel)]; exact ⟨rfl, rfl⟩))
    (fun os started H enc _ => lifted os started H enc)

theorem proved : Rows.SetTwosSaid :=
  over
#print axioms proved
end Go.Proofs.Ytahlehgibcdfeab
