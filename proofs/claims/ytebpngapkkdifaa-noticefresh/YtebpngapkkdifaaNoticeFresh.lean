/- NoticeFresh: at every notice: the fresh notice of its node is the least one; no condition. -/
import Derived.Test.YtebpngapkkdifaaRows
import Derived.WalkKit
import Derived.ProofKit
import Derived.OpenShut
import Derived.Test.YtebpngapkkdifaaNte
import Derived.Test.YtebpngapkkdifaaOpt
namespace Go.Proofs.Ytebpngapkkdifaa
open Go.ChangeShapes Go.WideShapes Go.ChangeAt Go.RowKit
set_option linter.unusedVariables false


theorem own : ownKnob Try.prog.godebug = none := by kernel_rfl
set_option maxHeartbeats 4000000 in
set_option maxRecDepth 100000 in
theorem walk (o0 t0 k0 : Int) (wo0 : (Lit.int .i64 o0).wf = true) (wt0 : (Lit.int .i64 t0).wf = true) (wk0 : (Lit.int .i64 k0).wf = true) (w : World) :
    Calls Try.prog 5 #[nt o0 t0 k0] w fun e w' => e = .returned (.bool true) ∧ Below w.heap.size w w' := by
  have hf := fresh_any o0
  have hal := alive_any
  have hr1 := rank_any o0 0 1
  have hB0 := beats_any o0 0 1 o0 t0 k0
  have hr2 := rank_any o0 t0 k0
  have hB3 := beats_any o0 t0 k0 o0 0 1
  have hj0 : JL w [(w.heap.size, o0, t0, k0)] (w.alloc (.cells #[.int .i64 o0, .int .i64 t0, .int .i64 k0] 23)) := by simpa using (JL.nil w).new o0 t0 k0
  have e1 : rk 0 1 = 0 := by decide
  have n1 := @rk_neg t0 k0
  rw [e1] at hr1
  have e2 : bt o0 0 1 o0 t0 k0 = false := decide_eq_false (by intro h; have := h.2.2.2; have := h.2.2.1; omega)
  rw [e2] at hB0
  by_cases h1 : rk t0 k0 = -1
  · rw [h1] at hr2
    clear h1 n1 e1 e2
    unfold nt at *
    go_enter Try.func5, Try.ntmps5
    go_wp2_with (first | (go_at_call 13; (with_reducible refine (hf _).mono ?_); rintro e u1 ⟨rfl, hb1⟩; have hj1 : JL w [(w.heap.size, o0, t0, k0), (u1.heap.size, o0, 0, 1)] (u1.alloc (.cells #[.int .i64 o0, .int .i64 0, .int .i64 1] 23)) := (by simpa using (hj0.carry hb1).new o0 0 1); have x1l : w.heap.size < u1.heap.size := ((hj0.carry hb1).get 0 rfl).lt) | (go_at_call 10; (with_reducible refine (hal _).mono ?_); rintro e u2 ⟨rfl, hb2⟩; have hj2 : JL w [(w.heap.size, o0, t0, k0), (u1.heap.size, o0, 0, 1)] u2 := (hj1).carry hb2; have x0a := (hj2.get 0 rfl).c0; have x0b := (hj2.get 0 rfl).c1; have x0c := (hj2.get 0 rfl).c2; have x0l := (hj2.get 0 rfl).lt; have x1a := (hj2.get 1 rfl).c0; have x1b := (hj2.get 1 rfl).c1; have x1c := (hj2.get 1 rfl).c2; have x1l := (hj2.get 1 rfl).lt) | (go_at_call 8; (with_reducible refine (hr1 _).mono ?_); rintro e u3 ⟨rfl, hb3⟩; have hj3 : JL w [(w.heap.size, o0, t0, k0), (u1.heap.size, o0, 0, 1)] u3 := (hj2).carry hb3; have x0a := (hj3.get 0 rfl).c0; have x0b := (hj3.get 0 rfl).c1; have x0c := (hj3.get 0 rfl).c2; have x0l := (hj3.get 0 rfl).lt; have x1a := (hj3.get 1 rfl).c0; have x1b := (hj3.get 1 rfl).c1; have x1c := (hj3.get 1 rfl).c2; have x1l := (hj3.get 1 rfl).lt) | (go_at_call 11; (with_reducible refine (hB0 _).mono ?_); rintro e u4 ⟨rfl, hb4⟩; have hj4 : JL w [(w.heap.size, o0, t0, k0), (u1.heap.size, o0, 0, 1)] u4 := (hj3).carry hb4; have x0a := (hj4.get 0 rfl).c0; have x0b := (hj4.get 0 rfl).c1; have x0c := (hj4.get 0 rfl).c2; have x0l := (hj4.get 0 rfl).lt; have x1a := (hj4.get 1 rfl).c0; have x1b := (hj4.get 1 rfl).c1; have x1c := (hj4.get 1 rfl).c2; have x1l := (hj4.get 1 rfl).lt) | (go_at_call 8; (with_reducible refine (hr2 _).mono ?_); rintro e u5 ⟨rfl, hb5⟩; have hj5 : JL w [(w.heap.size, o0, t0, k0), (u1.heap.size, o0, 0, 1)] u5 := (hj4).carry hb5; have x0a := (hj5.get 0 rfl).c0; have x0b := (hj5.get 0 rfl).c1; have x0c := (hj5.get 0 rfl).c2; have x0l := (hj5.get 0 rfl).lt; have x1a := (hj5.get 1 rfl).c0; have x1b := (hj5.get 1 rfl).c1; have x1c := (hj5.get 1 rfl).c2; have x1l := (hj5.get 1 rfl).lt))
    go_ret
    exact ⟨rfl, hj5.below⟩
  have h2 : 0 ≤ rk t0 k0 := by omega
  by_cases h3 : t0 = 0 ∧ k0 = 1
  · obtain ⟨rfl, rfl⟩ := h3
    rw [e1] at hr2
    clear h1 n1 h2 e1 e2
    unfold nt at *
    go_enter Try.func5, Try.ntmps5
    go_wp2_with (first | (go_at_call 13; (with_reducible refine (hf _).mono ?_); rintro e u1 ⟨rfl, hb1⟩; have hj1 : JL w [(w.heap.size, o0, 0, 1), (u1.heap.size, o0, 0, 1)] (u1.alloc (.cells #[.int .i64 o0, .int .i64 0, .int .i64 1] 23)) := (by simpa using (hj0.carry hb1).new o0 0 1); have x1l : w.heap.size < u1.heap.size := ((hj0.carry hb1).get 0 rfl).lt) | (go_at_call 10; (with_reducible refine (hal _).mono ?_); rintro e u2 ⟨rfl, hb2⟩; have hj2 : JL w [(w.heap.size, o0, 0, 1), (u1.heap.size, o0, 0, 1)] u2 := (hj1).carry hb2; have x0a := (hj2.get 0 rfl).c0; have x0b := (hj2.get 0 rfl).c1; have x0c := (hj2.get 0 rfl).c2; have x0l := (hj2.get 0 rfl).lt; have x1a := (hj2.get 1 rfl).c0; have x1b := (hj2.get 1 rfl).c1; have x1c := (hj2.get 1 rfl).c2; have x1l := (hj2.get 1 rfl).lt) | (go_at_call 8; (with_reducible refine (hr1 _).mono ?_); rintro e u3 ⟨rfl, hb3⟩; have hj3 : JL w [(w.heap.size, o0, 0, 1), (u1.heap.size, o0, 0, 1)] u3 := (hj2).carry hb3; have x0a := (hj3.get 0 rfl).c0; have x0b := (hj3.get 0 rfl).c1; have x0c := (hj3.get 0 rfl).c2; have x0l := (hj3.get 0 rfl).lt; have x1a := (hj3.get 1 rfl).c0; have x1b := (hj3.get 1 rfl).c1; have x1c := (hj3.get 1 rfl).c2; have x1l := (hj3.get 1 rfl).lt) | (go_at_call 11; (with_reducible refine (hB0 _).mono ?_); rintro e u4 ⟨rfl, hb4⟩; have hj4 : JL w [(w.heap.size, o0, 0, 1), (u1.heap.size, o0, 0, 1)] u4 := (hj3).carry hb4; have x0a := (hj4.get 0 rfl).c0; have x0b := (hj4.get 0 rfl).c1; have x0c := (hj4.get 0 rfl).c2; have x0l := (hj4.get 0 rfl).lt; have x1a := (hj4.get 1 rfl).c0; have x1b := (hj4.get 1 rfl).c1; have x1c := (hj4.get 1 rfl).c2; have x1l := (hj4.get 1 rfl).lt) | (go_at_call 8; (with_reducible refine (hr1 _).mono ?_); rintro e u5 ⟨rfl, hb5⟩; have hj5 : JL w [(w.heap.size, o0, 0, 1), (u1.heap.size, o0, 0, 1)] u5 := (hj4).carry hb5; have x0a := (hj5.get 0 rfl).c0; have x0b := (hj5.get 0 rfl).c1; have x0c := (hj5.get 0 rfl).c2; have x0l := (hj5.get 0 rfl).lt; have x1a := (hj5.get 1 rfl).c0; have x1b := (hj5.get 1 rfl).c1; have x1c := (hj5.get 1 rfl).c2; have x1l := (hj5.get 1 rfl).lt))
    go_ret
    exact ⟨rfl, hj5.below⟩
  have h4 : rk t0 k0 ≠ 0 := fun e => h3 (rk_inj (e.trans e1.symm) h1)
  have e3 : bt o0 t0 k0 o0 0 1 = true := decide_eq_true ⟨rfl, h1, by rw [e1]; decide, by rw [e1]; omega⟩
  rw [e3] at hB3
  generalize rk t0 k0 = r at *
  have h5 : ¬ r < 0 := by omega
  clear n1 h1 h2 h4 e1 e2 e3
  by_cases h6 : t0 = 0
  · subst h6
    have h7 : ¬ k0 = 1 := fun e => h3 ⟨rfl, e⟩
    clear h3
    unfold nt at *
    go_enter Try.func5, Try.ntmps5
    go_wp2_with (first | (go_at_call 13; (with_reducible refine (hf _).mono ?_); rintro e u1 ⟨rfl, hb1⟩; have hj1 : JL w [(w.heap.size, o0, 0, k0), (u1.heap.size, o0, 0, 1)] (u1.alloc (.cells #[.int .i64 o0, .int .i64 0, .int .i64 1] 23)) := (by simpa using (hj0.carry hb1).new o0 0 1); have x1l : w.heap.size < u1.heap.size := ((hj0.carry hb1).get 0 rfl).lt) | (go_at_call 10; (with_reducible refine (hal _).mono ?_); rintro e u2 ⟨rfl, hb2⟩; have hj2 : JL w [(w.heap.size, o0, 0, k0), (u1.heap.size, o0, 0, 1)] u2 := (hj1).carry hb2; have x0a := (hj2.get 0 rfl).c0; have x0b := (hj2.get 0 rfl).c1; have x0c := (hj2.get 0 rfl).c2; have x0l := (hj2.get 0 rfl).lt; have x1a := (hj2.get 1 rfl).c0; have x1b := (hj2.get 1 rfl).c1; have x1c := (hj2.get 1 rfl).c2; have x1l := (hj2.get 1 rfl).lt) | (go_at_call 8; (with_reducible refine (hr1 _).mono ?_); rintro e u3 ⟨rfl, hb3⟩; have hj3 : JL w [(w.heap.size, o0, 0, k0), (u1.heap.size, o0, 0, 1)] u3 := (hj2).carry hb3; have x0a := (hj3.get 0 rfl).c0; have x0b := (hj3.get 0 rfl).c1; have x0c := (hj3.get 0 rfl).c2; have x0l := (hj3.get 0 rfl).lt; have x1a := (hj3.get 1 rfl).c0; have x1b := (hj3.get 1 rfl).c1; have x1c := (hj3.get 1 rfl).c2; have x1l := (hj3.get 1 rfl).lt) | (go_at_call 11; (with_reducible refine (hB0 _).mono ?_); rintro e u4 ⟨rfl, hb4⟩; have hj4 : JL w [(w.heap.size, o0, 0, k0), (u1.heap.size, o0, 0, 1)] u4 := (hj3).carry hb4; have x0a := (hj4.get 0 rfl).c0; have x0b := (hj4.get 0 rfl).c1; have x0c := (hj4.get 0 rfl).c2; have x0l := (hj4.get 0 rfl).lt; have x1a := (hj4.get 1 rfl).c0; have x1b := (hj4.get 1 rfl).c1; have x1c := (hj4.get 1 rfl).c2; have x1l := (hj4.get 1 rfl).lt) | (go_at_call 8; (with_reducible refine (hr2 _).mono ?_); rintro e u5 ⟨rfl, hb5⟩; have hj5 : JL w [(w.heap.size, o0, 0, k0), (u1.heap.size, o0, 0, 1)] u5 := (hj4).carry hb5; have x0a := (hj5.get 0 rfl).c0; have x0b := (hj5.get 0 rfl).c1; have x0c := (hj5.get 0 rfl).c2; have x0l := (hj5.get 0 rfl).lt; have x1a := (hj5.get 1 rfl).c0; have x1b := (hj5.get 1 rfl).c1; have x1c := (hj5.get 1 rfl).c2; have x1l := (hj5.get 1 rfl).lt) | (go_at_call 11; (with_reducible refine (hB3 _).mono ?_); rintro e u6 ⟨rfl, hb6⟩; have hj6 : JL w [(w.heap.size, o0, 0, k0), (u1.heap.size, o0, 0, 1)] u6 := (hj5).carry hb6; have x0a := (hj6.get 0 rfl).c0; have x0b := (hj6.get 0 rfl).c1; have x0c := (hj6.get 0 rfl).c2; have x0l := (hj6.get 0 rfl).lt; have x1a := (hj6.get 1 rfl).c0; have x1b := (hj6.get 1 rfl).c1; have x1c := (hj6.get 1 rfl).c2; have x1l := (hj6.get 1 rfl).lt))
    go_ret
    exact ⟨rfl, hj6.below⟩
  · clear h3
    unfold nt at *
    go_enter Try.func5, Try.ntmps5
    go_wp2_with (first | (go_at_call 13; (with_reducible refine (hf _).mono ?_); rintro e u1 ⟨rfl, hb1⟩; have hj1 : JL w [(w.heap.size, o0, t0, k0), (u1.heap.size, o0, 0, 1)] (u1.alloc (.cells #[.int .i64 o0, .int .i64 0, .int .i64 1] 23)) := (by simpa using (hj0.carry hb1).new o0 0 1); have x1l : w.heap.size < u1.heap.size := ((hj0.carry hb1).get 0 rfl).lt) | (go_at_call 10; (with_reducible refine (hal _).mono ?_); rintro e u2 ⟨rfl, hb2⟩; have hj2 : JL w [(w.heap.size, o0, t0, k0), (u1.heap.size, o0, 0, 1)] u2 := (hj1).carry hb2; have x0a := (hj2.get 0 rfl).c0; have x0b := (hj2.get 0 rfl).c1; have x0c := (hj2.get 0 rfl).c2; have x0l := (hj2.get 0 rfl).lt; have x1a := (hj2.get 1 rfl).c0; have x1b := (hj2.get 1 rfl).c1; have x1c := (hj2.get 1 rfl).c2; have x1l := (hj2.get 1 rfl).lt) | (go_at_call 8; (with_reducible refine (hr1 _).mono ?_); rintro e u3 ⟨rfl, hb3⟩; have hj3 : JL w [(w.heap.size, o0, t0, k0), (u1.heap.size, o0, 0, 1)] u3 := (hj2).carry hb3; have x0a := (hj3.get 0 rfl).c0; have x0b := (hj3.get 0 rfl).c1; have x0c := (hj3.get 0 rfl).c2; have x0l := (hj3.get 0 rfl).lt; have x1a := (hj3.get 1 rfl).c0; have x1b := (hj3.get 1 rfl).c1; have x1c := (hj3.get 1 rfl).c2; have x1l := (hj3.get 1 rfl).lt) | (go_at_call 11; (with_reducible refine (hB0 _).mono ?_); rintro e u4 ⟨rfl, hb4⟩; have hj4 : JL w [(w.heap.size, o0, t0, k0), (u1.heap.size, o0, 0, 1)] u4 := (hj3).carry hb4; have x0a := (hj4.get 0 rfl).c0; have x0b := (hj4.get 0 rfl).c1; have x0c := (hj4.get 0 rfl).c2; have x0l := (hj4.get 0 rfl).lt; have x1a := (hj4.get 1 rfl).c0; have x1b := (hj4.get 1 rfl).c1; have x1c := (hj4.get 1 rfl).c2; have x1l := (hj4.get 1 rfl).lt) | (go_at_call 8; (with_reducible refine (hr2 _).mono ?_); rintro e u5 ⟨rfl, hb5⟩; have hj5 : JL w [(w.heap.size, o0, t0, k0), (u1.heap.size, o0, 0, 1)] u5 := (hj4).carry hb5; have x0a := (hj5.get 0 rfl).c0; have x0b := (hj5.get 0 rfl).c1; have x0c := (hj5.get 0 rfl).c2; have x0l := (hj5.get 0 rfl).lt; have x1a := (hj5.get 1 rfl).c0; have x1b := (hj5.get 1 rfl).c1; have x1c := (hj5.get 1 rfl).c2; have x1l := (hj5.get 1 rfl).lt) | (go_at_call 11; (with_reducible refine (hB3 _).mono ?_); rintro e u6 ⟨rfl, hb6⟩; have hj6 : JL w [(w.heap.size, o0, t0, k0), (u1.heap.size, o0, 0, 1)] u6 := (hj5).carry hb6; have x0a := (hj6.get 0 rfl).c0; have x0b := (hj6.get 0 rfl).c1; have x0c := (hj6.get 0 rfl).c2; have x0l := (hj6.get 0 rfl).lt; have x1a := (hj6.get 1 rfl).c0; have x1b := (hj6.get 1 rfl).c1; have x1c := (hj6.get 1 rfl).c2; have x1l := (hj6.get 1 rfl).lt))
    go_ret
    exact ⟨rfl, hj6.below⟩

set_option maxRecDepth 100000 in
theorem lifted (os : Os) (started : os.Started) (H : Type) (enc : TypeId × Value → H) :
    ReturnsInHanded {} Try.checked os 5 .any (Rows.noticeFreshSpec.pre6 enc Try.prog Try.f5 Rows.noticeFreshRow.domain false) (Rows.noticeFreshSpec.post enc Try.prog Try.f5 false true false false) := by
  refine returnsInHanded_of_change (C := Try.checked) own started (by kernel_rfl) Try.func5
    (ChangeSpec.witness6 (enc := enc) (C := Try.checked) false ⟨#[], #[.agg #[.int .i64 0, .int .i64 0, .int .i64 0]], []⟩ 8 (by kernel_rfl) (by kernel_rfl) (by kernel_rfl) (by kernel_rfl)) ?_
  intro W base args ds gs before hval0 hW hcnd _
  have hval : ∀ (j : Nat) t v, Try.f5.params[j]? = some t → args[j]? = some v → Value.okWide Try.prog W .any base t v := hval0
  have hW' := hW
  obtain ⟨p, q, hA0, hV, rfl, hfz, hnd⟩ := hW
  have hA : DataW.TrodAll enc Try.prog W 0 (fun _ => true) true Try.f5.params.toList args.toList ds p := hA0
  rw [Try.params5] at hA hval
  obtain ⟨v0, vs0, d0, ds0, p0, q0, hargs, rfl, rfl, h0, r0⟩ := trodAll_cons hA
  obtain ⟨rfl, rfl, rfl⟩ := trodAll_nil r0
  obtain rfl : args = #[v0] := by cases args; simp_all
  obtain ⟨rfl, rfl⟩ := trodVars_none hV
  obtain ⟨o0, t0, k0, rfl, rfl, rfl, wo0, wt0, wk0⟩ := open_nt (hval 0 23 v0 rfl rfl) h0
  clear hA0 hval0
  simp only [List.append_nil] at hW'
  refine (walk o0 t0 k0 wo0 wt0 wk0 W).mono fun e W' ⟨he, hg⟩ => ?_
  subst he
  exact ⟨_, rfl, _, _, _, [], _, [], hW', (trodAll_cons_mk (shut_bool Try.underlying4 _) trodAll_mk0), (trodAll_cons_mk (shut_nt wo0 wt0 wk0) trodAll_mk0), rfl, hg.frame _, fun h => by cases h⟩

theorem over : Rows.noticeFreshRow.holds Try.pinned (OpenSpec.ofChange Rows.noticeFreshSpec) :=
  OpenClaim.holds_of_wide 5 Try.f5 rfl rfl rfl rfl rfl rfl rfl ⟨rfl, rfl, rfl, rfl, rfl⟩ rfl rfl rfl rfl rfl (by kernel_rfl) Try.func5 (by kernel_rfl)
    (of_decide_eq_true (by kernel_rfl)) (by unfold Func.isWrapper; first | (rw [if_pos (by decide +kernel)]; kernel_rfl) | (rw [if_neg (by decide +kernel)]; exact ⟨rfl, rfl⟩))
    (fun os started H enc _ => lifted os started H enc)

theorem proved : Rows.NoticeFreshSaid :=
  over
#print axioms proved
end Go.Proofs.Ytebpngapkkdifaa
