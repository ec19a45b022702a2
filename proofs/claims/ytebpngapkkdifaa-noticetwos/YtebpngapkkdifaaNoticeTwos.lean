/- NoticeTwos: for all two notices Beats and Max answer as the document says; no condition. -/
import Derived.Test.YtebpngapkkdifaaRows
import Derived.WalkKit
import Derived.ProofKit
import Derived.OpenShut
import Derived.Test.YtebpngapkkdifaaNte
import Derived.Test.YtebpngapkkdifaaOpt
namespace Go.Proofs.Ytebpngapkkdifaa
open Go.ChangeShapes Go.WideShapes Go.ChangeAt Go.RowKit
set_option linter.unusedVariables false


theorem own : ownKnob Try.prog.godebug = none := by kernel_rfl
theorem bin_eqlb {x y : Operand} {w : World} (a : Bool) : binRun Try.prog .eql 4 x y (.bool a) (.bool a) w = .ok (.bool true) w := by
  unfold binRun
  cases a <;> go_simp
set_option maxHeartbeats 4000000 in
set_option maxRecDepth 100000 in
theorem walk (o0 t0 k0 : Int) (wo0 : (Lit.int .i64 o0).wf = true) (wt0 : (Lit.int .i64 t0).wf = true) (wk0 : (Lit.int .i64 k0).wf = true) (o1 t1 k1 : Int) (wo1 : (Lit.int .i64 o1).wf = true) (wt1 : (Lit.int .i64 t1).wf = true) (wk1 : (Lit.int .i64 k1).wf = true) (w : World) :
    Calls Try.prog 7 #[nt o0 t0 k0, nt o1 t1 k1] w fun e w' => e = .returned (.bool true) ∧ Below w.heap.size w w' := by
  have hmx : Try.prog.follows .mixedOrders = true := by kernel_rfl
  have hp := max_any o0 t0 k0 o1 t1 k1
  have hq := rMax_any o0 t0 k0 o1 t1 k1
  have hal := alive_any
  have hvp : ∃ a b c x, mxV o0 t0 k0 o1 t1 k1 = .tuple #[nt a b c, .int .i64 x] := by
    unfold mxV
    split
    · exact ⟨_, _, _, _, rfl⟩
    · exact ⟨_, _, _, _, rfl⟩
  obtain ⟨a, b, c, x, hv⟩ := hvp
  rw [hv] at hp hq
  have hj0 : JL w [(w.heap.size, o0, t0, k0), (w.heap.size + 1, o1, t1, k1)] ((w.alloc (.cells #[.int .i64 o0, .int .i64 t0, .int .i64 k0] 23)).alloc (.cells #[.int .i64 o1, .int .i64 t1, .int .i64 k1] 23)) := by simpa using ((JL.nil w).new o0 t0 k0).new o1 t1 k1
  clear hv
  unfold nt at *
  go_enter Try.func7, Try.ntmps7
  go_wp2_with (first | (go_at_call 9; (with_reducible refine (hp _).mono ?_); rintro e u1 ⟨rfl, hb1⟩; have hj1 : JL w [(w.heap.size, o0, t0, k0), (w.heap.size + 1, o1, t1, k1), (u1.heap.size, a, b, c)] (u1.alloc (.cells #[.int .i64 a, .int .i64 b, .int .i64 c] 23)) := (by simpa using (hj0.carry hb1).new a b c); have y0 := ((hj0.carry hb1).get 0 rfl).c0; have y1 := ((hj0.carry hb1).get 0 rfl).c1; have y2 := ((hj0.carry hb1).get 0 rfl).c2; have yl := ((hj0.carry hb1).get 0 rfl).lt; have z0 := ((hj0.carry hb1).get 1 rfl).c0; have z1 := ((hj0.carry hb1).get 1 rfl).c1; have z2 := ((hj0.carry hb1).get 1 rfl).c2; have zl := ((hj0.carry hb1).get 1 rfl).lt) | (go_at_call 19; (with_reducible refine (hq _).mono ?_); rintro e u2 ⟨rfl, hb2⟩; have hj2 : JL w [(w.heap.size, o0, t0, k0), (w.heap.size + 1, o1, t1, k1), (u1.heap.size, a, b, c), (u2.heap.size, a, b, c)] (u2.alloc (.cells #[.int .i64 a, .int .i64 b, .int .i64 c] 23)) := (by simpa using (hj1.carry hb2).new a b c)))
  rename_i Q0 K0 hK
  refine wp_region_any hmx ?_
  refine wpAny_pure (fun i__ => ([(.bool true), (.bool true), (nt o0 t0 k0), (nt o1 t1 k1), (.bool (bt o0 t0 k0 o1 t1 k1)), (nt o0 t0 k0), (nt o1 t1 k1), (.bool (bt o0 t0 k0 o1 t1 k1)), (.bool true), (.bool true), (.bool true), (nt a b c), (nt a b c), (.bool true), (.bool true), (.bool true), (.int .i64 x), (.int .i64 x), (.bool true), (.bool true), (.bool true)] : List Value).getD i__ undef) (fun W => JL w [(w.heap.size, o0, t0, k0), (w.heap.size + 1, o1, t1, k1), (u1.heap.size, a, b, c), (u2.heap.size, a, b, c)] W) (by kernel_rfl) (hj2.carry (Below.refl _ _).drew) ?_ ?_
  · refine (stepsFrom_cons ?_ (stepsFrom_cons ?_ (stepsFrom_cons ?_ (stepsFrom_cons ?_ (stepsFrom_cons ?_ (stepsFrom_cons ?_ (stepsFrom_cons ?_ (stepsFrom_cons ?_ (stepsFrom_cons ?_ (stepsFrom_cons ?_ (stepsFrom_cons ?_ (stepsFrom_cons ?_ (stepsFrom_cons ?_ (stepsFrom_cons ?_ (stepsFrom_cons ?_ (stepsFrom_cons ?_ (stepsFrom_cons ?_ (stepsFrom_cons ?_ (stepsFrom_cons ?_ (stepsFrom_cons ?_ (stepsFrom_cons ?_ trivial)))))))))))))))))))))
    · exact step_call rfl trivial 10 _ _ [] rfl (by kernel_rfl) (enters_of Try.func10 (by kernel_rfl) rfl) (fun w hw => (alive_any w).mono (by rintro e w' ⟨rfl, hb⟩; exact ⟨rfl, hw.carry hb⟩))
    · exact step_move rfl trivial _ rfl (by kernel_rfl)
    · exact step_load rfl (by exact ⟨_, rfl, by kernel_rfl⟩) _ _ _ rfl rfl (fun w hw => load_nt (hw.get 0 rfl))
    · exact step_load rfl (by exact ⟨_, rfl, by kernel_rfl⟩) _ _ _ rfl rfl (fun w hw => load_nt (hw.get 1 rfl))
    · exact step_call rfl (by exact ⟨_, rfl, by kernel_rfl⟩) 11 _ _ [(nt o0 t0 k0), (nt o1 t1 k1)] rfl (by kernel_rfl) (enters_of Try.func11 (by kernel_rfl) rfl) (fun w hw => (beats_any o0 t0 k0 o1 t1 k1 w).mono (by rintro e w' ⟨rfl, hb⟩; exact ⟨rfl, hw.carry hb⟩))
    · exact step_load rfl (by exact ⟨_, rfl, by kernel_rfl⟩) _ _ _ rfl rfl (fun w hw => load_nt (hw.get 0 rfl))
    · exact step_load rfl (by exact ⟨_, rfl, by kernel_rfl⟩) _ _ _ rfl rfl (fun w hw => load_nt (hw.get 1 rfl))
    · exact step_call rfl (by exact ⟨_, rfl, by kernel_rfl⟩) 20 _ _ [(nt o0 t0 k0), (nt o1 t1 k1)] rfl (by kernel_rfl) (enters_of Try.func20 (by kernel_rfl) rfl) (fun w hw => (rBeats_any o0 t0 k0 o1 t1 k1 w).mono (by rintro e w' ⟨rfl, hb⟩; exact ⟨rfl, hw.carry hb⟩))
    · exact step_binOp rfl (by exact ⟨_, rfl, by kernel_rfl⟩) _ _ _ _ _ _ _ rfl rfl rfl (fun w hw => (bin_eqlb _).trans rfl)
    · exact step_pick rfl trivial _ _ _ true rfl (by kernel_rfl) (by kernel_rfl)
    · exact step_move rfl trivial _ rfl (by kernel_rfl)
    · exact step_load rfl (by exact ⟨_, rfl, by kernel_rfl⟩) _ _ _ rfl rfl (fun w hw => load_nt (hw.get 2 rfl))
    · exact step_load rfl (by exact ⟨_, rfl, by kernel_rfl⟩) _ _ _ rfl rfl (fun w hw => load_nt (hw.get 3 rfl))
    · exact step_binOp rfl (by exact ⟨_, rfl, by kernel_rfl⟩) _ _ _ _ _ _ _ rfl rfl rfl (fun w hw => (bin_eqn _ _ _ _ _ _).trans (by simp))
    · exact step_pick rfl trivial _ _ _ true rfl (by kernel_rfl) (by kernel_rfl)
    · exact step_move rfl trivial _ rfl (by kernel_rfl)
    · exact step_move rfl (by exact ⟨_, rfl, by kernel_rfl⟩) _ rfl (by kernel_rfl)
    · exact step_move rfl (by exact ⟨_, rfl, by kernel_rfl⟩) _ rfl (by kernel_rfl)
    · exact step_binOp rfl (by exact ⟨_, rfl, by kernel_rfl⟩) _ _ _ _ _ _ _ rfl rfl rfl (fun w hw => (bin_eql .i64 _ _).trans (by simp))
    · exact step_pick rfl trivial _ _ _ true rfl (by kernel_rfl) (by kernel_rfl)
    · exact step_assign rfl trivial _ rfl (by kernel_rfl) (fun _ h => h)
  intro W hW
  first | refine hK _ _ ?_ | refine (‹∀ (a : Act) (w : World), Code.wp Try.prog _ _ a w → _›) _ _ ?_
  simp only [finL, List.getD_cons_zero, List.getD_cons_succ, Nat.zero_add, Nat.reduceAdd, List.setIfInBounds_toArray, List.set_cons_zero, List.set_cons_succ]
  go_wp2
  go_ret
  exact ⟨rfl, hW.below⟩

set_option maxRecDepth 100000 in
theorem lifted (os : Os) (started : os.Started) (H : Type) (enc : TypeId × Value → H) :
    ReturnsInHanded {} Try.checked os 7 .any (Rows.noticeTwosSpec.pre6 enc Try.prog Try.f7 Rows.noticeTwosRow.domain false) (Rows.noticeTwosSpec.post enc Try.prog Try.f7 false true false false) := by
  refine returnsInHanded_of_change (C := Try.checked) own started (by kernel_rfl) Try.func7
    (ChangeSpec.witness6 (enc := enc) (C := Try.checked) false ⟨#[], #[.agg #[.int .i64 0, .int .i64 0, .int .i64 0], .agg #[.int .i64 0, .int .i64 0, .int .i64 0]], []⟩ 8 (by kernel_rfl) (by kernel_rfl) (by kernel_rfl) (by kernel_rfl)) ?_
  intro W base args ds gs before hval0 hW hcnd _
  have hval : ∀ (j : Nat) t v, Try.f7.params[j]? = some t → args[j]? = some v → Value.okWide Try.prog W .any base t v := hval0
  have hW' := hW
  obtain ⟨p, q, hA0, hV, rfl, hfz, hnd⟩ := hW
  have hA : DataW.TrodAll enc Try.prog W 0 (fun _ => true) true Try.f7.params.toList args.toList ds p := hA0
  rw [Try.params7] at hA hval
  obtain ⟨v0, vs0, d0, ds0, p0, q0, hargs, rfl, rfl, h0, r0⟩ := trodAll_cons hA
  obtain ⟨v1, vs1, d1, ds1, p1, q1, rfl, rfl, rfl, h1, r1⟩ := trodAll_cons r0
  obtain ⟨rfl, rfl, rfl⟩ := trodAll_nil r1
  obtain rfl : args = #[v0, v1] := by cases args; simp_all
  obtain ⟨rfl, rfl⟩ := trodVars_none hV
  obtain ⟨o0, t0, k0, rfl, rfl, rfl, wo0, wt0, wk0⟩ := open_nt (hval 0 23 v0 rfl rfl) h0
  obtain ⟨o1, t1, k1, rfl, rfl, rfl, wo1, wt1, wk1⟩ := open_nt (hval 1 23 v1 rfl rfl) h1
  clear hA0 hval0
  simp only [List.append_nil] at hW'
  refine (walk o0 t0 k0 wo0 wt0 wk0 o1 t1 k1 wo1 wt1 wk1 W).mono fun e W' ⟨he, hg⟩ => ?_
  subst he
  exact ⟨_, rfl, _, _, _, [], _, [], hW', (trodAll_cons_mk (shut_bool Try.underlying4 _) trodAll_mk0), (trodAll_cons_mk (shut_nt wo0 wt0 wk0) (trodAll_cons_mk (shut_nt wo1 wt1 wk1) trodAll_mk0)), rfl, hg.frame _, fun h => by cases h⟩

theorem over : Rows.noticeTwosRow.holds Try.pinned (OpenSpec.ofChange Rows.noticeTwosSpec) :=
  OpenClaim.holds_of_wide 7 Try.f7 rfl rfl rfl rfl rfl rfl rfl ⟨rfl, rfl, rfl, rfl, rfl⟩ rfl rfl rfl rfl rfl (by kernel_rfl) Try.func7 (by kernel_rfl)
    (of_decide_eq_true (by kernel_rfl)) (by unfold Func.isWrapper; first | (rw [if_pos (by decide +kernel)]; kernel_rfl) | (rw [if_neg (by decide +kernel)]; exact ⟨rfl, rfl⟩))
    (fun os started H enc _ => lifted os started H enc)

theorem proved : Rows.NoticeTwosSaid :=
  over
#print axioms proved
end Go.Proofs.Ytebpngapkkdifaa
